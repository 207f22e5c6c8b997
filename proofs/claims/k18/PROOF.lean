import PyProof.Rows.All
import Wide.All
import OpenK.AllK
import Wide.FinOn
import Lean
import PyProof.EqAt
import PyProof.EqKinds
import PyProof.TupleCall
import PyProof.SeqI3
import KE.KTupSum
import KE.LcSums
import KE.KDictSum
import KE.KTryMore
import PyProof.ExcBaseAll.ValueError
import OpenK.KOwn
import KE.RegKTryMore
import KE.RegKIsAll
import PyProof.ListMulRoad
import PyProof.Draws
import PyProof.EnumStmt
import PyProof.EnumMake
import PyProof.StrLawsTight
import PyProof.StrLawsChain
import PyProof.Rows.StrNews
import PyProof.Rows.StrJoin2
import PyProof.Rows.EnumRows
import PySem.Challenge.RW_leaperwalk_k18_texts
set_option Elab.async false
set_option linter.all false
set_option maxRecDepth 100000
-- CHANGE: your row's module here, as the last of these rows
set_option Elab.async false
set_option linter.all false
set_option maxRecDepth 100000
namespace L2
open PySem PySem.Spec PyProof.Rows
noncomputable abbrev Key := Sum Int Str
noncomputable def keyIs : Key → Value → Bool
  | .inl k, v => Value.isInt k v
  | .inr x, v => Value.isStrOf x v
noncomputable def keyH (w : World) : Key → Int
  | .inl k => hashInt k
  | .inr x => hashStr w x
theorem keyIs_shape : ∀ {k : Key} {v : Value}, keyIs k v = true → (∃ i t, k = Sum.inl i ∧ v = Value.int i t) ∨ (∃ x t, k = Sum.inr x ∧ v = Value.str x t)
  | .inl i, v, h => by
    obtain ⟨t, e⟩ := Value.isInt_shape (k := i) (v := v) h
    exact .inl ⟨i, t, rfl, e⟩
  | .inr x, v, h => by
    obtain ⟨t, e⟩ := Value.isStrOf_shape (x := x) (v := v) h
    exact .inr ⟨x, t, rfl, e⟩
theorem keyIs_int (i : Int) (t : Tok) : keyIs (.inl i) (.int i t) = true := by simp [keyIs, Value.isInt]
theorem keyIs_str (x : Str) (t : Tok) : keyIs (.inr x) (.str x t) = true := by simp [keyIs, Value.isStrOf]
theorem key_ll (a b : Int) : decide ((Sum.inl a : Key) = Sum.inl b) = (a == b) := by
  by_cases e : a = b
  · subst e; simp
  · have h : ¬ (Sum.inl a : Key) = Sum.inl b := fun q => e (Sum.inl.inj q)
    rw [decide_eq_false h]
    exact (beq_eq_false_iff_ne.mpr e).symm
theorem key_rr (a b : Str) : decide ((Sum.inr a : Key) = Sum.inr b) = decide (a = b) := by
  by_cases e : a = b
  · subst e; simp
  · have h : ¬ (Sum.inr a : Key) = Sum.inr b := fun q => e (Sum.inr.inj q)
    rw [decide_eq_false h, decide_eq_false e]
theorem key_lr (a : Int) (b : Str) : decide ((Sum.inl a : Key) = Sum.inr b) = false := decide_eq_false (fun q => nomatch q)
theorem key_rl (a : Str) (b : Int) : decide ((Sum.inr a : Key) = Sum.inl b) = false := decide_eq_false (fun q => nomatch q)
noncomputable def mixKind (prog : Program) (w : World) : PySem.KeyKind prog w Key where
  is := keyIs
  hash := keyH w
  inj := fun v a b ha hb => by
    rcases keyIs_shape ha with ⟨i, t, rfl, rfl⟩ | ⟨x, t, rfl, rfl⟩
    · rcases keyIs_shape hb with ⟨j, u, rfl, e⟩ | ⟨y, u, rfl, e⟩
      · injection e with e1 _; rw [e1]
      · exact nomatch e
    · rcases keyIs_shape hb with ⟨j, u, rfl, e⟩ | ⟨y, u, rfl, e⟩
      · exact nomatch e
      · injection e with e1 _; rw [e1]
  byValue := fun k v h => by
    rcases keyIs_shape h with ⟨i, t, rfl, rfl⟩ | ⟨x, t, rfl, rfl⟩ <;> rfl
  pyHash := fun hv h => by
    rcases keyIs_shape hv with ⟨i, t, rfl, rfl⟩ | ⟨x, t, rfl, rfl⟩
    · exact wpAny_pyHash_int h
    · exact wpAny_pyHash_str h
  eqBool := fun hu hv h => by
    rcases keyIs_shape hu with ⟨i, t, rfl, rfl⟩ | ⟨x, t, rfl, rfl⟩
    · rcases keyIs_shape hv with ⟨j, u, rfl, rfl⟩ | ⟨y, u, rfl, rfl⟩
      · rw [key_ll] at h; exact wpAny_eqBool_int h
      · rw [key_lr] at h; exact SeqAt.EqAt.int_str i t y u _ _ _ _ h
    · rcases keyIs_shape hv with ⟨j, u, rfl, rfl⟩ | ⟨y, u, rfl, rfl⟩
      · rw [key_rl] at h; exact SeqAt.EqAt.str_int x t j u _ _ _ _ h
      · rw [key_rr] at h; exact wpAny_eqBool_str h
  «strs» := fun k x t v h => by
    rcases keyIs_shape h with ⟨i, u, rfl, e⟩ | ⟨y, u, rfl, e⟩
    · exact nomatch e
    · injection e with e1 _
      subst e1
      cases v <;> rfl
theorem mixKind_int (prog : Program) (w : World) (i : Int) (t : Tok) : (mixKind prog w).is (.inl i) (.int i t) = true := keyIs_int i t
theorem mixKind_str (prog : Program) (w : World) (x : Str) (t : Tok) : (mixKind prog w).is (.inr x) (.str x t) = true := keyIs_str x t
end L2
namespace L2
open PySem PySem.Spec PyProof.Rows
inductive V where
  | non | bl (b : Bool) | int (i : Int) | str (x : Str) | byt (b : Array UInt8) | flt (b : UInt64) | ref (a : Addr) | ty (n : String)
  deriving DecidableEq
noncomputable def RelV : V → Value → Prop
  | .non, u => u = Value.none
  | .bl b, u => u = Value.bool b
  | .int i, u => ∃ t, u = Value.int i t
  | .str x, u => ∃ t, u = Value.str x t
  | .byt b, u => ∃ t, u = Value.bytes b t
  | .flt b, u => ∃ t, u = Value.float b t
  | .ref a, u => u = Value.ref a
  | .ty n, u => u = Value.type n
noncomputable abbrev Vals : List V → List Value → Prop := Paired RelV
theorem Vals.length {xs : List V} {us : List Value} (r : Vals xs us) : xs.length = us.length := Paired.length r
theorem Vals.get : ∀ {xs : List V} {us : List Value} {i : Nat} {x : V}, Vals xs us → xs[i]? = some x → ∃ u, us[i]? = some u ∧ RelV x u
  | _, _, _, _, .nil, e => by simp at e
  | _, _, 0, _, .cons r _, e => by simp at e; subst e; exact ⟨_, rfl, r⟩
  | _, _, i + 1, x, .cons _ t, e => by
    obtain ⟨u, h1, h2⟩ := Vals.get (i := i) (x := x) t (by simpa using e)
    exact ⟨u, by simpa using h1, h2⟩
theorem Vals.set {x : V} {u : Value} (r : RelV x u) : ∀ {xs : List V} {us : List Value} (i : Nat), Vals xs us → Vals (xs.set i x) (us.set i u)
  | _, _, _, .nil => .nil
  | _, _, 0, .cons _ t => .cons r t
  | _, _, i + 1, .cons q t => .cons q (Vals.set r i t)
theorem Vals.append : ∀ {xs ys : List V} {us ws : List Value}, Vals xs us → Vals ys ws → Vals (xs ++ ys) (us ++ ws)
  | _, _, _, _, .nil, s => s
  | _, _, _, _, .cons r t, s => .cons r (Vals.append t s)
theorem Vals.take : ∀ {xs : List V} {us : List Value} (n : Nat), Vals xs us → Vals (xs.take n) (us.take n)
  | _, _, 0, _ => .nil
  | _, _, _ + 1, .nil => .nil
  | _, _, n + 1, .cons r t => .cons r (Vals.take n t)
theorem Vals.drop : ∀ {xs : List V} {us : List Value} (n : Nat), Vals xs us → Vals (xs.drop n) (us.drop n)
  | _, _, 0, r => r
  | _, _, _ + 1, .nil => .nil
  | _, _, n + 1, .cons _ t => Vals.drop n t
noncomputable def RelO : Option V → Option Value → Prop
  | some v, some u => RelV v u
  | none, none => True
  | _, _ => False
noncomputable def KV {κ : Type} : List (κ × V) → List (κ × Value) → Prop := Paired fun (p : κ × V) (q : κ × Value) => p.1 = q.1 ∧ RelV p.2 q.2
noncomputable def kV : Key → V
  | .inl i => .int i
  | .inr x => .str x
inductive HO where
  | lst (xs : List V)
  | tup (xs : List V)
  | dK (kvs : List (Key × V)) | dT (kvs : List (List Key × V))
  | set (S : Int → Bool) (n : Nat)
  | ins (C dx : Addr) (fs : List (Str × V))
  | own (x : Addr)
  | xd (fs : List (Str × V))
  | met (f x : Addr)
  | rng (lo hi : Int)
  | frz (o : Obj) (u : HO)
  | tbl (ps : Array Value)
  | ext (φ : Heap → Prop)
noncomputable abbrev Hp := Addr → Option HO
noncomputable def upd (H : Hp) (a : Addr) (o : HO) : Hp := fun b => if b = a then some o else H b
theorem upd_same {H : Hp} {a : Addr} {o : HO} : upd H a o a = some o := by unfold upd; rw [if_pos rfl]
theorem upd_ne {H : Hp} {a b : Addr} {o : HO} (h : b ≠ a) : upd H a o b = H b := by unfold upd; rw [if_neg h]
theorem ne_of_none {H : Hp} {a b : Addr} {o : HO} (h : H a = some o) (h' : H b = none) : a ≠ b := by
  intro e; subst e; rw [h] at h'; cases h'
section
variable (P : Program) (w : World)
noncomputable def ObjOk (H : Hp) (h : Heap) (a : Addr) : HO → Prop
  | .lst xs => xs.length ≤ sizeLine ∧ ∃ (its : List Value) (n : Nat), Vals xs its ∧ h.get? a = some { cls := .type "list", data := .seq its.toArray n }
  | .tup xs => xs.length ≤ sizeLine ∧ ∃ its : List Value, Vals xs its ∧ IsTup h a its.toArray
  | .dK kvs => kvs.length ≤ sizeLine ∧ (a == sysModules) = false ∧ ∃ vs, KV kvs vs ∧ h.DictOf (mixKind P w) a vs
  | .dT kvs => kvs.length ≤ sizeLine ∧ (a == sysModules) = false ∧ ∃ xs : List (List Key × Addr × Value),
      Paired (fun (p : List Key × V) (q : List Key × Addr × Value) => p.1 = q.1 ∧ H q.2.1 = some (.tup (p.1.map kV)) ∧ RelV p.2 q.2.2) kvs xs ∧
      ∃ o es ep, h.get? a = some o ∧ o.ExactDict ∧ o.data = .dict es ep ∧ es.toList = xs.map (entryOfKey (tupleKind (mixKind P w))) ∧ (xs.map (·.1)).Nodup
  | .set S n => h.SetOf (intKind P w) a S n
  | .ins C dx fs => H dx = some (.own a) ∧ fs.length ≤ 1000 ∧ dx ≠ a ∧ h.get? a = some (PySem.W.instObj C dx) ∧
      ∃ mA, h.Ns1 dx mA ∧ (∀ f, RelO (fs.lookup f) (mA f)) ∧ PySem.Within mA (fs.map (·.1))
  | .own _ => ∃ o, h.get? a = some o
  | .xd fs => ∃ mA, h.Ns1 a mA ∧ ∀ f, RelO (fs.lookup f) (mA f)
  | .rng lo hi => ∃ t u v, h.get? a = some { cls := .type "range", data := .fields #[.int lo t, .int hi u, .int 1 v] }
  | .frz o u => h.get? a = some o ∧ ObjOk H h a u
  | .tbl ps => h.get? a = some { cls := .none, data := .fields ps }
  | .met f x => h.get? a = some (PySem.W.methodObj (.ref f) (.ref x))
  | .ext φ => φ h ∧ (∃ o, h.get? a = some o) ∧ ∀ h1 h2 : Heap, φ h1 → (∀ o, h1.get? a = some o → h2.get? a = some o) → φ h2
noncomputable def HOk (H : Hp) (h : Heap) : Prop := ∀ a o, H a = some o → ObjOk P w H h a o
end
section
variable {P : Program} {w : World} {H H' : Hp} {h h' : Heap} {a : Addr} {o : HO}
theorem ObjOk.lt (x : ObjOk P w H h a o) : a < h.objs.size := by
  cases o with
  | lst xs => obtain ⟨_, _, _, _, e⟩ := x; exact Heap.lt_size e
  | tup xs => obtain ⟨_, _, _, p⟩ := x; exact p.lt
  | dK kvs => obtain ⟨_, _, _, _, o, _, _, e, _⟩ := x; exact Heap.lt_size e
  | dT kvs => obtain ⟨_, _, _, _, o, _, _, e, _⟩ := x; exact Heap.lt_size e
  | set S n => obtain ⟨o, _, _, _, e, _⟩ := x; exact Heap.lt_size e
  | ins C dx fs => obtain ⟨_, _, _, e, _⟩ := x; exact Heap.lt_size e
  | own y => obtain ⟨_, e⟩ := x; exact Heap.lt_size e
  | xd fs => obtain ⟨_, ⟨_, _, _, e, _⟩, _⟩ := x; exact Heap.lt_size e
  | rng lo hi => obtain ⟨_, _, _, e⟩ := x; exact Heap.lt_size e
  | frz ob u => obtain ⟨e, _⟩ := x; exact Heap.lt_size e
  | tbl ps => exact Heap.lt_size (show h.get? a = some _ from x)
  | met f y => exact Heap.lt_size (show h.get? a = some _ from x)
  | ext φ => obtain ⟨_, ⟨_, e⟩, _⟩ := x; exact Heap.lt_size e
theorem Paired.mapP {α β : Type} {F G : α → β → Prop} : ∀ {l₁ : List α} {l₂ : List β}, Paired F l₁ l₂ → (∀ a b, F a b → G a b) → Paired G l₁ l₂
  | _, _, .nil, _ => .nil
  | _, _, .cons r t, f => .cons (f _ _ r) (Paired.mapP t f)
theorem ObjOk.stay (x : ObjOk P w H h a o) (k : ∀ b u, (b = a ∨ H b = some (.own a)) → h.get? b = some u → h'.get? b = some u)
    (ho : ∀ b, H b = some (.own a) → H' b = some (.own a)) (ht : ∀ b xs, H b = some (.tup xs) → H' b = some (.tup xs)) : ObjOk P w H' h' a o := by
  induction o with
  | lst xs => obtain ⟨z, its, n, r, e⟩ := x; exact ⟨z, its, n, r, k _ _ (.inl rfl) e⟩
  | tup xs => obtain ⟨z, its, r, ob, e, c⟩ := x; exact ⟨z, its, r, ob, k _ _ (.inl rfl) e, c⟩
  | dK kvs => obtain ⟨z, y, vs, r, ob, es, ep, e, c⟩ := x; exact ⟨z, y, vs, r, ob, es, ep, k _ _ (.inl rfl) e, c⟩
  | dT kvs =>
    obtain ⟨z, y, xs, r, ob, es, ep, e, c⟩ := x
    exact ⟨z, y, xs, Paired.mapP r fun p q z => ⟨z.1, ht _ _ z.2.1, z.2.2⟩, ob, es, ep, k _ _ (.inl rfl) e, c⟩
  | set S n => obtain ⟨ob, es, ep, t, e, c⟩ := x; exact ⟨ob, es, ep, t, k _ _ (.inl rfl) e, c⟩
  | ins C dx fs =>
    obtain ⟨d, z, ne, e, mA, ⟨od, es, ep, e2, c⟩, r⟩ := x
    exact ⟨ho _ d, z, ne, k _ _ (.inl rfl) e, mA, ⟨od, es, ep, k _ _ (.inr d) e2, c⟩, r⟩
  | own y => obtain ⟨ob, e⟩ := x; exact ⟨ob, k _ _ (.inl rfl) e⟩
  | xd fs => obtain ⟨mA, ⟨od, es, ep, e, c⟩, r⟩ := x; exact ⟨mA, ⟨od, es, ep, k _ _ (.inl rfl) e, c⟩, r⟩
  | rng lo hi => obtain ⟨t, u, v, e⟩ := x; exact ⟨t, u, v, k _ _ (.inl rfl) e⟩
  | frz ob u ih => obtain ⟨e, q⟩ := x; exact ⟨k _ _ (.inl rfl) e, ih q⟩
  | tbl ps =>
    have e : h.get? a = some { cls := .none, data := .fields ps } := x
    show h'.get? a = some { cls := .none, data := .fields ps }
    exact k a _ (.inl rfl) e
  | met f y =>
    have e : h.get? a = some (PySem.W.methodObj (.ref f) (.ref y)) := x
    show h'.get? a = some (PySem.W.methodObj (.ref f) (.ref y))
    exact k a _ (.inl rfl) e
  | ext φ => obtain ⟨p, ⟨o, e⟩, st⟩ := x; exact ⟨st _ _ p fun o q => k _ _ (.inl rfl) q, ⟨o, k _ _ (.inl rfl) e⟩, st⟩
theorem HOk.lt (x : HOk P w H h) (e : H a = some o) : a < h.objs.size := (x a o e).lt
theorem HOk.fresh (x : HOk P w H h) (e : h.objs.size ≤ a) : H a = none := by
  cases q : H a with
  | none => rfl
  | some u => exact absurd (Nat.lt_of_lt_of_le (x.lt q) e) (Nat.lt_irrefl _)
theorem HOk.kept (x : HOk P w H h) (k : ∀ b u, h.get? b = some u → h'.get? b = some u) : HOk P w H h' := fun a o e =>
  (x a o e).stay (fun b u _ q => k b u q) (fun _ q => q) fun _ _ q => q
theorem HOk.laid (x : HOk P w H h) (k : ∀ b u, h.get? b = some u → h'.get? b = some u) (hp : h.objs.size ≤ a) (new : ObjOk P w (upd H a o) h' a o) : HOk P w (upd H a o) h' := fun b u e => by
  have hn := x.fresh hp
  by_cases hb : b = a
  · subst hb; rw [upd_same] at e; cases e; exact new
  · rw [upd_ne hb] at e
    exact (x b u e).stay (fun c v _ q => k c v q) (fun c q => by rw [upd_ne (ne_of_none q hn)]; exact q) fun c xs q => by rw [upd_ne (ne_of_none q hn)]; exact q
end
noncomputable def Rd (H : Hp) (a : Addr) (u : HO) : Prop := H a = some u ∨ ∃ o, H a = some (.frz o u)
theorem Rd.of {H : Hp} {a : Addr} {u : HO} (h : H a = some u) : Rd H a u := .inl h
theorem Rd.ok {P : Program} {w : World} {H : Hp} {h : Heap} {a : Addr} {u : HO} (r : Rd H a u) (x : HOk P w H h) : ObjOk P w H h a u := by
  rcases r with r | ⟨o, r⟩
  · exact x a u r
  · obtain ⟨_, q⟩ := x a _ r
    exact q
noncomputable def Mut : Option HO → Prop
  | some (.lst _) => True
  | some (.dK _) => True
  | some (.dT _) => True
  | some (.set _ _) => True
  | some (.ins _ _ _) => True
  | some (.ext _) => True
  | _ => False
section
variable {P : Program} {w : World} {H : Hp} {h h' : Heap} {x e : Addr} {o' : HO}
theorem HOk.write (ok : HOk P w H h) (mu : Mut (H x)) (he : e = x ∨ H e = some (.own x)) (k : ∀ b u, b ≠ e → h.get? b = some u → h'.get? b = some u) (heo : ∃ u, h'.get? e = some u)
    (new : ObjOk P w (upd H x o') h' x o') : HOk P w (upd H x o') h' := fun b u q => by
  have nown : ∀ c y, H c = some (.own y) → c ≠ x := fun c y r z => by subst z; rw [r] at mu; exact mu
  have ntup : ∀ c xs, H c = some (.tup xs) → c ≠ x := fun c xs r z => by subst z; rw [r] at mu; exact mu
  by_cases hb : b = x
  · subst hb; rw [upd_same] at q; cases q; exact new
  · rw [upd_ne hb] at q
    by_cases hbe : b = e
    · have q' : H b = some (.own x) := by
        rcases he with z | z
        · exact absurd (hbe.trans z) hb
        · rw [hbe]; exact z
      rw [q] at q'; cases q'
      obtain ⟨v, hv⟩ := heo
      exact ⟨v, by rw [hbe]; exact hv⟩
    · refine (ok b u q).stay (fun c v hc r => k c v ?_ r) (fun c r => by rw [upd_ne (nown c b r)]; exact r) fun c xs r => by rw [upd_ne (ntup c xs r)]; exact r
      rcases hc with rfl | hc
      · exact hbe
      · rintro rfl
        rcases he with z | z
        · exact nown c b hc z
        · rw [hc] at z; cases z; exact hb rfl
end
structure Un (fs ex : List Addr) (H H' : Hp) (h h' : Heap) : Prop where
  keep : ∀ b o, h.get? b = some o → H b = none → b ∉ fs → b ∉ ex → h'.get? b = some o
  slot : ∀ b o, h.get? b = some o → H b = none → b ∈ fs → b ∉ ex → ∃ sl, h'.get? b = some { o with slots := sl }
  free : ∀ b o, h.get? b = some o → H b = none → b ∉ ex → H' b = none
  there : ∀ b o, h.get? b = some o → b ∉ ex → ∃ o', h'.get? b = some o'
  tups : ∀ b xs, H b = some (.tup xs) → H' b = some (.tup xs)
  frzs : ∀ b o u, H b = some (.frz o u) → H' b = some (.frz o u)
  tbls : ∀ b ps, H b = some (.tbl ps) → ∃ more, H' b = some (.tbl (ps ++ more))
section
variable {fs fs' ex ex' : List Addr} {H H1 H2 : Hp} {h h1 h2 h' : Heap} {a x e : Addr} {o : HO}
theorem Un.any (u : Un fs ex H H1 h h1) {b : Addr} {ob : Obj} (q : h.get? b = some ob) (n : H b = none) (hx : b ∉ ex) : ∃ sl, h1.get? b = some { ob with slots := sl } := by
  by_cases hb : b ∈ fs
  · exact u.slot b ob q n hb hx
  · exact ⟨ob.slots, u.keep b ob q n hb hx⟩
theorem Un.trans (a : Un fs ex H H1 h h1) (b : Un fs ex H1 H2 h1 h2) : Un fs ex H H2 h h2 where
  keep := fun c ob q n hc hx => b.keep c ob (a.keep c ob q n hc hx) (a.free c ob q n hx) hc hx
  slot := fun c ob q n hc hx => by
    obtain ⟨sl, e1⟩ := a.slot c ob q n hc hx
    obtain ⟨sl', e2⟩ := b.slot c _ e1 (a.free c ob q n hx) hc hx
    exact ⟨sl', e2⟩
  free := fun c ob q n hx => by
    obtain ⟨o', e1⟩ := a.there c ob q hx
    exact b.free c o' e1 (a.free c ob q n hx) hx
  there := fun c ob q hx => by
    obtain ⟨o', e1⟩ := a.there c ob q hx
    exact b.there c o' e1 hx
  tups := fun c xs q => b.tups c xs (a.tups c xs q)
  frzs := fun c ob xs q => b.frzs c ob xs (a.frzs c ob xs q)
  tbls := fun c ps q => by
    obtain ⟨m1, e1⟩ := a.tbls c ps q
    obtain ⟨m2, e2⟩ := b.tbls c _ e1
    exact ⟨m1 ++ m2, by rw [e2, Array.append_assoc]⟩
theorem Un.kept (k : ∀ b u, h.get? b = some u → h'.get? b = some u) : Un fs ex H H h h' :=
  ⟨fun b ob q _ _ _ => k b ob q, fun b ob q _ _ _ => ⟨ob.slots, k b ob q⟩, fun _ _ _ n _ => n, fun b ob q _ => ⟨ob, k b ob q⟩, fun _ _ q => q, fun _ _ _ q => q, fun _ ps q => ⟨#[], by rw [q]; simp⟩⟩
theorem Un.refl : Un fs ex H H h h := Un.kept fun _ _ q => q
theorem Un.laid (k : ∀ b u, h.get? b = some u → h'.get? b = some u) (hp : h.objs.size ≤ a) (hn : H a = none) : Un fs ex H (upd H a o) h h' where
  keep := fun b u q _ _ _ => k b u q
  slot := fun b u q _ _ _ => ⟨u.slots, k b u q⟩
  free := fun b u q n _ => by rw [upd_ne (Nat.ne_of_lt (Nat.lt_of_lt_of_le (Heap.lt_size q) hp))]; exact n
  there := fun b u q _ => ⟨u, k b u q⟩
  tups := fun b xs q => by rw [upd_ne (ne_of_none q hn)]; exact q
  frzs := fun b u xs q => by rw [upd_ne (ne_of_none q hn)]; exact q
  tbls := fun b ps q => ⟨#[], by rw [upd_ne (ne_of_none q hn), q]; simp⟩
theorem Un.write (mu : Mut (H x)) (he : e = x ∨ H e = some (.own x)) (k : ∀ b u, b ≠ e → h.get? b = some u → h'.get? b = some u) (heo : ∃ u, h'.get? e = some u) : Un fs ex H (upd H x o) h h' := by
  have hx : ∀ b, H b = none → b ≠ x := fun b n z => by subst z; rw [n] at mu; exact mu
  have hb : ∀ b, H b = none → b ≠ e := fun b n z => by
    subst z
    rcases he with r | r
    · exact hx b n r
    · rw [n] at r; cases r
  have hm : ∀ b u, H b = some u → ¬ Mut (some u) → b ≠ x := fun b u q nm z => by subst z; rw [q] at mu; exact nm mu
  refine ⟨fun b u q n _ _ => k b u (hb b n) q, fun b u q n _ _ => ⟨u.slots, k b u (hb b n) q⟩, fun b u q n _ => by rw [upd_ne (hx b n)]; exact n, fun b u q _ => ?_,
    fun b xs q => by rw [upd_ne (hm b _ q fun z => z)]; exact q, fun b u xs q => by rw [upd_ne (hm b _ q fun z => z)]; exact q, fun b ps q => ⟨#[], by rw [upd_ne (hm b _ q fun z => z), q]; simp⟩⟩
  by_cases hbe : b = e
  · subst hbe; exact heo
  · exact ⟨u, k b u hbe q⟩
end
noncomputable def trk (h : Heap) (H : Hp) : List Addr := (List.range h.objs.size).filter fun a => (H a).isSome
noncomputable def hidT (h : Heap) (H : Hp) : Heap := PySem.W.hideAll h (trk h H)
theorem hidT_size (h : Heap) (H : Hp) : (hidT h H).objs.size = h.objs.size := PySem.W.hideAll_size _ _
theorem hidT_get {h : Heap} {H : Hp} {b : Addr} {o : Obj} (e : h.get? b = some o) (n : H b = none) : (hidT h H).get? b = some o :=
  PySem.W.hideAll_get _ e fun hm => by
    have q : (H b).isSome = true := (List.mem_filter.mp hm).2
    rw [n] at q; simp at q
theorem of_hidT {h : Heap} {H : Hp} {b : Addr} {o : Obj} (e : (hidT h H).get? b = some o) : h.get? b = some o ∧ H b = none := by
  have e' : h.get? b = some o := PySem.W.of_hideAll (trk h H) e
  refine ⟨e', ?_⟩
  cases q : H b with
  | none => rfl
  | some x =>
    have hm : b ∈ trk h H := List.mem_filter.mpr ⟨List.mem_range.mpr (Heap.lt_size e'), by simp [q]⟩
    have z : (hidT h H).get? b = none := PySem.W.hideAll_none (trk h H) hm
    rw [z] at e; cases e
noncomputable def allNews (g h : Heap) (L : Addr) : List (Addr × Obj) := (List.range h.objs.size).filterMap fun a => if a = L ∨ (g.get? a).isSome = true then none else (h.get? a).map fun o => (a, o)
noncomputable def rest (g h : Heap) (L d : Addr) : List (Addr × Obj) := (allNews g h L).filter fun p => decide (p.1 ≠ d)
end L2
namespace L2
open PySem PySem.Spec PyProof.Rows
structure Mod (K : PySem.W.Frag) (mg : Str → Option Value) (base : Heap) : Prop where
  kin : K.In base
  glob : base.Ns mainGlobals mg
  blt : ∃ mb, base.Ns builtinsNs mb ∧ ∀ x : Str, x ≠ "__name__" → mb x = bootBuiltins x
  nolimit : base.NoLimit
structure Cx where
  prog : Program
  w : World
  K : PySem.W.Frag
  mg : Str → Option Value
  base : Heap
  A : Around
  N : List Str
  s₀ : Shared
  H₀ : Hp
  env : Env
  outer : List Env
  stack : List Env
  ex : List Addr
  fn : Str → Bool
  calm : Bool
  pn : List (Addr × Obj)
  xe : Value → Shared → Prop
noncomputable def frs (l : List Env) : List Addr := l.filterMap (·.frame)
noncomputable abbrev Cx.fs (X : Cx) : List Addr := frs X.outer
noncomputable def Vis (sc : Scope) (x : Str) : Prop := sc.names.lookup x = some .local ∨ sc.names.lookup x = some .cell ∨ sc.names.lookup x = some .free
noncomputable def Loc (sc : Scope) (x : Str) : Prop := sc.names.lookup x = some .local ∨ sc.names.lookup x = some .cell
noncomputable def Look (env : Env) (h : Heap) (m : Str → Option Value) (x : Str) (u : Value) : Prop :=
  (env.kindOf x = some .local ∧ m x = some u) ∨ ((env.kindOf x = some .cell ∨ env.kindOf x = some .free) ∧ ∃ c, env.cells.lookup x = some c ∧ h.IsCell c (some u))
structure Cx.Ok (X : Cx) : Prop where
  mod : Mod X.K X.mg X.base
  kind : X.env.scope.kind = .function
  glob : X.env.globals = mainGlobals
  blt : X.env.builtins = builtinsNs
  above : X.s₀.heap.objs.size ≤ X.env.locals
  inj : ∀ x y c, X.env.cells.lookup x = some c → X.env.cells.lookup y = some c → x = y
  has : ∀ x, (X.env.kindOf x = some .cell ∨ X.env.kindOf x = some .free) → ∃ c, X.env.cells.lookup x = some c
  cab : ∀ x c, X.fn x = true → X.env.cells.lookup x = some c → X.s₀.heap.objs.size ≤ c
  hd : X.calm = true → X.A.handled = none
  frames : X.A.frames = some X.stack
  stk : X.stack = X.outer ∨ (X.stack = X.env :: X.outer ∧ X.env.frame = some X.env.locals)
  exf : ∀ b ∈ X.ex, b ≠ X.env.locals ∧ ∀ x c, X.env.cells.lookup x = some c → c ≠ b
  bs : ∀ b o, X.base.get? b = some o → X.s₀.heap.get? b = some o ∧ X.H₀ b = none
  bsz : X.base.objs.size ≤ X.s₀.heap.objs.size
  noex : ∀ b o, X.base.get? b = some o → b ∉ X.ex
  exfs : ∀ b ∈ X.ex, b ∉ X.fs
  funs : X.s₀.heap.FunFrames X.base X.outer
  frf : ∀ b ∈ X.fs, X.H₀ b = none
structure Inv (X : Cx) (pins : List (Addr × Obj)) (σ : List (Option V)) (H : Hp) (s : Shared) : Prop where
  ok : X.Ok
  os : s.os = X.s₀.os
  bare : AllBare s.gens
  base : Un X.fs X.ex X.H₀ H X.s₀.heap s.heap
  loc : ∃ m, s.heap.Ns X.env.locals m ∧ ∀ (i : Nat) (x : Str) (v : V), X.N[i]? = some x → σ[i]? = some (some v) → Vis X.env.scope x → ∃ u, RelV v u ∧ Look X.env s.heap m x u
  cell : ∀ x c, X.env.cells.lookup x = some c → ∃ v, s.heap.IsCell c v
  free : H X.env.locals = none
  freeC : ∀ x c, X.env.cells.lookup x = some c → H c = none
  pin : ∀ p ∈ X.pn ++ pins, s.heap.get? p.1 = some p.2 ∧ H p.1 = none ∧ p.1 ≠ X.env.locals ∧ p.1 ∉ X.fs ∧ ∀ v, p.2.data ≠ .cell v
  hok : HOk X.prog X.w H s.heap
  len : σ.length = X.N.length
section
variable {X : Cx} {pins : List (Addr × Obj)} {σ : List (Option V)} {H H' : Hp} {s : Shared} {h' : Heap}
theorem Cx.Ok.nofr (ok : X.Ok) {b : Addr} {o : Obj} (e : X.base.get? b = some o) : b ∉ X.fs := fun hb => by
  have := (ok.funs.mem hb).1
  rw [e] at this; cases this
theorem Inv.bs (I : Inv X pins σ H s) : ∀ b o, X.base.get? b = some o → s.heap.get? b = some o ∧ H b = none := fun b o e =>
  ⟨I.base.keep b o (I.ok.bs b o e).1 (I.ok.bs b o e).2 (I.ok.nofr e) (I.ok.noex b o e), I.base.free b o (I.ok.bs b o e).1 (I.ok.bs b o e).2 (I.ok.noex b o e)⟩
theorem Inv.bk (I : Inv X pins σ H s) : ∀ b o, X.base.get? b = some o → s.heap.get? b = some o := fun b o e => (I.bs b o e).1
theorem Inv.mod (I : Inv X pins σ H s) : Mod X.K X.mg X.base := I.ok.mod
theorem Inv.kIn (I : Inv X pins σ H s) : X.K.In s.heap := I.ok.mod.kin.keeps I.bk
theorem Inv.nolimit (I : Inv X pins σ H s) : s.heap.NoLimit := I.ok.mod.nolimit.keeps I.bk
theorem Inv.fr (I : Inv X pins σ H s) : ∃ m, Fr X.base X.env.locals s.heap m :=
  let ⟨m, hn, _⟩ := I.loc
  ⟨m, hn, I.bk, Nat.le_trans I.ok.bsz I.ok.above⟩
theorem Inv.lt (I : Inv X pins σ H s) : X.env.locals < s.heap.objs.size := let ⟨_, hn, _⟩ := I.loc; hn.lt
theorem Inv.sz (I : Inv X pins σ H s) : X.s₀.heap.objs.size ≤ s.heap.objs.size := Nat.le_trans I.ok.above (Nat.le_of_lt I.lt)
theorem Inv.nofs (I : Inv X pins σ H s) {a : Addr} (h : s.heap.objs.size ≤ a) : a ∉ X.fs := fun hb => by
  obtain ⟨_, o, ho, _⟩ := I.ok.funs.mem hb
  exact absurd (Nat.lt_of_lt_of_le (Heap.lt_size ho) (Nat.le_trans I.sz h)) (Nat.lt_irrefl _)
theorem Inv.cne (I : Inv X pins σ H s) : ∀ x c, X.env.cells.lookup x = some c → c ≠ X.env.locals := fun x c e z => by
  obtain ⟨v, o, ho, hd⟩ := I.cell x c e
  obtain ⟨m, ⟨o', es, ep, ho', hd', _⟩, _⟩ := I.loc
  rw [z, ho'] at ho; cases ho; rw [hd'] at hd; cases hd
theorem Inv.funs (I : Inv X pins σ H s) : s.heap.FunFrames X.base X.outer := by
  have all : ∀ (l : List Env), (∀ b ∈ frs l, b ∈ X.fs) → X.s₀.heap.FunFrames X.base l → s.heap.FunFrames X.base l := by
    intro l
    induction l with
    | nil => intro _ _; trivial
    | cons env r ih =>
      intro hs hl
      obtain ⟨hk, ⟨L, o, hf, hn, ho, hd⟩, hr⟩ := hl
      have hL : L ∈ X.fs := hs L (by unfold frs; rw [List.filterMap_cons, hf]; exact List.mem_cons_self)
      obtain ⟨sl, e⟩ := I.base.slot L o ho (I.ok.frf L hL) hL fun z => I.ok.exfs L z hL
      exact ⟨hk, ⟨L, _, hf, hn, e, hd⟩, ih (fun b hb => hs b (by unfold frs; rw [List.filterMap_cons, hf]; exact List.mem_cons_of_mem _ hb)) hr⟩
  exact all X.outer (fun _ hb => hb) I.ok.funs
theorem Inv.stack (I : Inv X pins σ H s) : s.heap.FunFrames X.base X.stack := by
  rcases I.ok.stk with e | ⟨e, hf⟩
  · rw [e]; exact I.funs
  · rw [e]
    obtain ⟨m, hn, _⟩ := I.loc
    refine .cons (by rw [I.ok.kind]; decide) hf hn ?_ I.funs
    exact Heap.get?_none_of_le (Nat.le_trans I.ok.bsz I.ok.above)
theorem Inv.stkSub (I : Inv X pins σ H s) : ∀ b ∈ frs X.stack, b ∈ X.env.locals :: X.fs := fun b hb => by
  rcases I.ok.stk with e | ⟨e, hf⟩
  · rw [e] at hb; exact List.mem_cons_of_mem _ hb
  · rw [e] at hb
    unfold frs at hb
    rw [List.filterMap_cons, hf] at hb
    exact hb
theorem Inv.stkFree (I : Inv X pins σ H s) : ∀ b ∈ frs X.stack, H b = none := fun b hb => by
  rcases List.mem_cons.mp (I.stkSub b hb) with e | hb
  · rw [e]; exact I.free
  · obtain ⟨_, o, ho, _⟩ := I.ok.funs.mem hb
    exact I.base.free b o ho (I.ok.frf b hb) fun z => I.ok.exfs b z hb
theorem Inv.step {g' : Array GenState} {t' : Nat} {d' : Drawn} {ch : List Addr} (I : Inv X pins σ H s)
    (hch : ∀ b ∈ ch, (b ∈ X.ex ∨ X.s₀.heap.objs.size ≤ b) ∧ b ≠ X.env.locals ∧ (∀ x c, X.env.cells.lookup x = some c → c ≠ b) ∧ ∀ p ∈ X.pn ++ pins, p.1 ≠ b)
    (keep : ∀ b o, b ≠ X.env.locals → b ∉ X.fs → b ∉ ch → s.heap.get? b = some o → H b = none → h'.get? b = some o)
    (slot : ∀ b o, b ≠ X.env.locals → b ∈ X.fs → b ∉ ch → s.heap.get? b = some o → H b = none → ∃ sl, h'.get? b = some { o with slots := sl }) (free : ∀ b o, b ∉ ch → s.heap.get? b = some o → H b = none → H' b = none)
    (there : ∀ b o, b ∉ ch → s.heap.get? b = some o → ∃ o', h'.get? b = some o')
    (tups : ∀ b xs, H b = some (.tup xs) → H' b = some (.tup xs)) (frzs : ∀ b o u, H b = some (.frz o u) → H' b = some (.frz o u)) (tbls : ∀ b ps, H b = some (.tbl ps) → ∃ more, H' b = some (.tbl (ps ++ more)))
    (ns : ∀ m, s.heap.Ns X.env.locals m → h'.Ns X.env.locals m) (hok : HOk X.prog X.w H' h') (hg : AllBare g') :
    Inv X pins σ H' { s with heap := h', gens := g', drawn := d', toks := t' } := by
  have neL : ∀ b o, X.s₀.heap.get? b = some o → b ≠ X.env.locals := fun b o e => Nat.ne_of_lt (Nat.lt_of_lt_of_le (Heap.lt_size e) I.ok.above)
  have neC : ∀ b o, X.s₀.heap.get? b = some o → b ∉ X.ex → b ∉ ch := fun b o e hx hb => by
    rcases (hch b hb).1 with z | z
    · exact hx z
    · exact absurd (Nat.lt_of_lt_of_le (Heap.lt_size e) z) (Nat.lt_irrefl _)
  have cellK : ∀ x c, X.env.cells.lookup x = some c → ∀ v, s.heap.IsCell c v → h'.IsCell c v := fun x c e v ⟨o, ho, hd⟩ => by
    have nch : c ∉ ch := fun z => (hch c z).2.2.1 x c e rfl
    by_cases hc : c ∈ X.fs
    · obtain ⟨sl, q⟩ := slot c o (I.cne x c e) hc nch ho (I.freeC x c e)
      exact ⟨_, q, hd⟩
    · exact ⟨o, keep c o (I.cne x c e) hc nch ho (I.freeC x c e), hd⟩
  refine ⟨I.ok, I.os, hg, ⟨fun b o e n hb hx => ?_, fun b o e n hb hx => ?_, fun b o e n hx => ?_, fun b o e hx => ?_, fun b xs e => tups b xs (I.base.tups b xs e), fun b o xs e => frzs b o xs (I.base.frzs b o xs e), fun b ps e => ?_⟩, ?_, fun x c e => ?_, ?_, fun x c e => ?_, fun p hp => ?_, hok, I.len⟩
  · exact keep b o (neL b o e) hb (neC b o e hx) (I.base.keep b o e n hb hx) (I.base.free b o e n hx)
  · obtain ⟨sl, e1⟩ := I.base.slot b o e n hb hx
    obtain ⟨sl', e2⟩ := slot b _ (neL b o e) hb (neC b o e hx) e1 (I.base.free b o e n hx)
    exact ⟨sl', e2⟩
  · obtain ⟨o', e1⟩ := I.base.there b o e hx
    exact free b o' (neC b o e hx) e1 (I.base.free b o e n hx)
  · obtain ⟨o', e1⟩ := I.base.there b o e hx
    exact there b o' (neC b o e hx) e1
  · obtain ⟨m1, e1⟩ := I.base.tbls b ps e
    obtain ⟨m2, e2⟩ := tbls b _ e1
    exact ⟨m1 ++ m2, by rw [e2, Array.append_assoc]⟩
  · obtain ⟨m, hn, hl⟩ := I.loc
    refine ⟨m, ns m hn, fun i x v e1 e2 e3 => ?_⟩
    obtain ⟨u, r, l⟩ := hl i x v e1 e2 e3
    refine ⟨u, r, ?_⟩
    rcases l with l | ⟨k, c, e, z⟩
    · exact .inl l
    · exact .inr ⟨k, c, e, cellK x c e _ z⟩
  · obtain ⟨v, z⟩ := I.cell x c e
    exact ⟨v, cellK x c e v z⟩
  · obtain ⟨m, ⟨o, _, _, ho, _⟩, _⟩ := I.loc
    exact free _ o (fun z => (hch _ z).2.1 rfl) ho I.free
  · obtain ⟨v, o, ho, hd⟩ := I.cell x c e
    exact free c o (fun z => (hch c z).2.2.1 x c e rfl) ho (I.freeC x c e)
  · obtain ⟨e, n, ne, nf, d⟩ := I.pin p hp
    have nch : p.1 ∉ ch := fun z => (hch p.1 z).2.2.2 p hp rfl
    exact ⟨keep p.1 p.2 ne nf nch e n, free p.1 p.2 nch e n, ne, nf, d⟩
theorem Inv.un {t' : Nat} (I : Inv X pins σ H s) (u : Un X.fs [] H H' s.heap h') (hok : HOk X.prog X.w H' h') : Inv X pins σ H' { s with heap := h', toks := t' } := by
  obtain ⟨m, ⟨o, es, ep, ho, r⟩, _⟩ := id I.loc
  obtain ⟨sl, hL⟩ := u.any ho I.free (by simp)
  exact I.step (g' := s.gens) (d' := s.drawn) (ch := []) (fun _ z => nomatch z) (fun b o _ hb _ e n => u.keep b o e n hb (by simp)) (fun b o _ hb _ e n => u.slot b o e n hb (by simp)) (fun b o _ e n => u.free b o e n (by simp)) (fun b o _ e => u.there b o e (by simp)) u.tups u.frzs u.tbls (fun m' hm => by
    obtain ⟨o', es', ep', ho', r'⟩ := hm
    rw [ho] at ho'; cases ho'
    exact ⟨_, es', ep', hL, r'⟩) hok I.bare
theorem Inv.call {g' : Array GenState} {t' : Nat} {d' : Drawn} {ch : List Addr} (I : Inv X pins σ H s) (u : Un (frs X.stack) ch H H' s.heap h') (hok : HOk X.prog X.w H' h') (hg : AllBare g')
    (hch : ∀ b ∈ ch, (b ∈ X.ex ∨ X.s₀.heap.objs.size ≤ b) ∧ b ≠ X.env.locals ∧ (∀ x c, X.env.cells.lookup x = some c → c ≠ b) ∧ ∀ p ∈ X.pn ++ pins, p.1 ≠ b) :
    Inv X pins σ H' { s with heap := h', gens := g', drawn := d', toks := t' } := by
  obtain ⟨m, ⟨o, es, ep, ho, r⟩, _⟩ := id I.loc
  obtain ⟨sl, hL⟩ := u.any ho I.free fun z => (hch _ z).2.1 rfl
  exact I.step (ch := ch) hch (fun b o hL hb hc e n => u.keep b o e n (fun z => (List.mem_cons.mp (I.stkSub b z)).elim hL hb) hc) (fun b o _ _ hc e n => u.any e n hc) (fun b o hc e n => u.free b o e n hc) (fun b o hc e => u.there b o e hc) u.tups u.frzs u.tbls (fun m' hm => by
    obtain ⟨o', es', ep', ho', r'⟩ := hm
    rw [ho] at ho'; cases ho'
    exact ⟨_, es', ep', hL, r'⟩) hok hg
theorem Inv.turned {t' : Nat} {it : Addr} (I : Inv X pins σ H s) (k : ∀ b o, b ≠ it → s.heap.get? b = some o → h'.get? b = some o) (hn : H it = none) (hL : it ≠ X.env.locals)
    (h1 : it ∈ X.ex ∨ X.s₀.heap.objs.size ≤ it) (h2 : ∀ x c, X.env.cells.lookup x = some c → c ≠ it) (h3 : ∀ p ∈ X.pn ++ pins, p.1 ≠ it) : Inv X pins σ H { s with heap := h', toks := t' } := by
  have nit : ∀ b u, H b = some u → b ≠ it := fun b u e z => by rw [z, hn] at e; cases e
  refine I.step (g' := s.gens) (d' := s.drawn) (ch := [it]) (fun b hb => ?_) (fun b o _ _ hc e _ => k b o (fun z => hc (by simp [z])) e) (fun b o _ _ hc e _ => ⟨o.slots, k b o (fun z => hc (by simp [z])) e⟩) (fun _ _ _ _ n => n)
    (fun b o hc e => ⟨o, k b o (fun z => hc (by simp [z])) e⟩) (fun _ _ e => e) (fun _ _ _ e => e) (fun b ps e => ⟨#[], by rw [e]; simp⟩) (fun m hm => ?_) (fun b u e => ?_) I.bare
  · have e : b = it := by simpa using hb
    subst e
    exact ⟨h1, hL, h2, h3⟩
  · obtain ⟨o, es, ep, ho, r⟩ := hm
    exact ⟨o, es, ep, k _ o (Ne.symm hL) ho, r⟩
  · refine (I.hok b u e).stay (fun c v hc q => k c v ?_ q) (fun _ q => q) fun _ _ q => q
    rcases hc with z | z
    · rw [z]; exact nit b u e
    · exact nit c _ z
theorem Inv.tok (I : Inv X pins σ H s) (t : Nat) : Inv X pins σ H { s with toks := t } := I.un (h' := s.heap) (t' := t) Un.refl I.hok
theorem Inv.kept {t' : Nat} (I : Inv X pins σ H s) (k : ∀ b u, s.heap.get? b = some u → h'.get? b = some u) : Inv X pins σ H { s with heap := h', toks := t' } := I.un (Un.kept k) (I.hok.kept k)
theorem Inv.laid {a : Addr} {o : HO} {t' : Nat} (I : Inv X pins σ H s) (k : ∀ b u, s.heap.get? b = some u → h'.get? b = some u) (hp : s.heap.objs.size ≤ a) (new : ObjOk X.prog X.w (upd H a o) h' a o) :
    Inv X pins σ (upd H a o) { s with heap := h', toks := t' } := I.un (Un.laid k hp (I.hok.fresh hp)) (I.hok.laid k hp new)
theorem Inv.write {x e : Addr} {o : HO} {t' : Nat} (I : Inv X pins σ H s) (mu : Mut (H x)) (he : e = x ∨ H e = some (.own x)) (k : ∀ b u, b ≠ e → s.heap.get? b = some u → h'.get? b = some u) (heo : ∃ u, h'.get? e = some u)
    (new : ObjOk X.prog X.w (upd H x o) h' x o) : Inv X pins σ (upd H x o) { s with heap := h', toks := t' } := I.un (Un.write mu he k heo) (I.hok.write mu he k heo new)
theorem Inv.pins_of {pins' : List (Addr × Obj)} (I : Inv X pins σ H s) (h : ∀ p ∈ pins', s.heap.get? p.1 = some p.2 ∧ H p.1 = none ∧ p.1 ≠ X.env.locals ∧ p.1 ∉ X.fs ∧ ∀ v, p.2.data ≠ .cell v) : Inv X pins' σ H s :=
  ⟨I.ok, I.os, I.bare, I.base, I.loc, I.cell, I.free, I.freeC, fun p hp => (List.mem_append.mp hp).elim (fun z => I.pin p (List.mem_append_left _ z)) (h p), I.hok, I.len⟩
theorem nodup_ix {N : List Str} (hN : N.Nodup) {i j : Nat} {x : Str} (a : N[i]? = some x) (b : N[j]? = some x) : i = j := by
  obtain ⟨h1, e1⟩ := List.getElem?_eq_some_iff.mp a
  obtain ⟨h2, e2⟩ := List.getElem?_eq_some_iff.mp b
  exact (List.getElem_inj hN).mp (e1.trans e2.symm)
theorem store_ok2 {M : Model} {A : Around} {E : Value → Shared → Prop} {i : Nat} {x : Str} {v : V} {u : Value} {Q : Unit → Shared → Prop} (I : Inv X pins σ H s) (hN : X.N.Nodup) (hi : X.N[i]? = some x) (hx : Loc X.env.scope x) (r : RelV v u)
    (h : ∀ s', Inv X pins (σ.set i (some v)) H s' → (∃ a, Heap.SameBut a s.heap s'.heap ∧ (a = X.env.locals ∨ X.env.cells.lookup x = some a)) → Q () s') (hf : X.fn x = true ∨ X.env.scope.names.lookup x = some .local := by first | exact .inl rfl | exact .inr rfl | assumption) : wpAny M A (storeName X.env x u) Q E s := by
  obtain ⟨m, hn, hl⟩ := id I.loc
  have hcls : (X.env.scope.kind == .class || (X.env.scope.kind == .module && X.env.locals != X.env.globals)) = false := by rw [I.ok.kind]; rfl
  have hiσ : i < σ.length := by rw [I.len]; exact (List.getElem?_eq_some_iff.mp hi).1
  have cne := I.cne
  have tracked : ∀ {a : Addr} {h' : Heap}, (∃ o, s.heap.get? a = some o ∧ H a = none) → Heap.SameBut a s.heap h' → HOk X.prog X.w H h' := fun {a h'} ha hs b ob e => by
    obtain ⟨_, _, hfree⟩ := ha
    refine (I.hok b ob e).stay (fun c w' hc q => (hs.2 c ?_).trans q) (fun _ q => q) fun _ _ q => q
    rintro rfl
    rcases hc with rfl | hc
    · rw [hfree] at e; cases e
    · rw [hfree] at hc; cases hc
  rcases hx with hk | hk
  · refine wpAny_storeName_local hk hn (fun h' hn' hs => ?_) hcls
    obtain ⟨oL, _, _, hoL, _⟩ := id hn
    refine h _ ⟨I.ok, I.os, I.bare, ⟨fun b o e n hb hx => ?_, fun b o e n hb hx => ?_, I.base.free, fun b o e hx => ?_, I.base.tups, I.base.frzs, I.base.tbls⟩, ⟨_, hn', fun j y v' e1 e2 e3 => ?_⟩, fun y c e => ?_, I.free, I.freeC, fun p hp => ?_, tracked ⟨oL, hoL, I.free⟩ hs, by simpa using I.len⟩ ⟨_, hs, .inl rfl⟩
    · exact (hs.2 b (Nat.ne_of_lt (Nat.lt_of_lt_of_le (Heap.lt_size e) I.ok.above))).trans (I.base.keep b o e n hb hx)
    · obtain ⟨sl, e1⟩ := I.base.slot b o e n hb hx
      exact ⟨sl, (hs.2 b (Nat.ne_of_lt (Nat.lt_of_lt_of_le (Heap.lt_size e) I.ok.above))).trans e1⟩
    · obtain ⟨o', e1⟩ := I.base.there b o e hx
      exact ⟨o', (hs.2 b (Nat.ne_of_lt (Nat.lt_of_lt_of_le (Heap.lt_size e) I.ok.above))).trans e1⟩
    · by_cases hj : j = i
      · subst hj
        rw [hi] at e1; cases e1
        rw [List.getElem?_set_self hiσ] at e2
        cases e2
        exact ⟨u, r, .inl ⟨hk, by simp⟩⟩
      · rw [List.getElem?_set_ne (Ne.symm hj)] at e2
        obtain ⟨u', r', q⟩ := hl j y v' e1 e2 e3
        refine ⟨u', r', ?_⟩
        rcases q with ⟨k, e⟩ | ⟨k, c, e, z⟩
        · refine .inl ⟨k, ?_⟩
          have : y ≠ x := fun e => hj (nodup_ix hN e1 (e ▸ hi))
          simp [this, e]
        · exact .inr ⟨k, c, e, z.sameBut hs (cne y c e)⟩
    · obtain ⟨w', z⟩ := I.cell y c e
      exact ⟨w', z.sameBut hs (cne y c e)⟩
    · obtain ⟨e, n, ne, nf, d⟩ := I.pin p hp
      exact ⟨(hs.2 p.1 ne).trans e, n, ne, nf, d⟩
  · have hfn : X.fn x = true := by
      rcases hf with z | z
      · exact z
      · rw [z] at hk; cases hk
    obtain ⟨c, hc⟩ := I.ok.has x (.inl hk)
    obtain ⟨w', z⟩ := I.cell x c hc
    refine wpAny_storeName_cell I.ok.kind hk hc z (fun h' hc' hs => ?_)
    obtain ⟨oc, hoc, hocd⟩ := id z
    refine h { s with heap := h' } ⟨I.ok, I.os, I.bare, ⟨fun b o e n hb hx => ?_, fun b o e n hb hx => ?_, I.base.free, fun b o e hx => ?_, I.base.tups, I.base.frzs, I.base.tbls⟩, ⟨m, hn.sameBut hs (Ne.symm (cne x c hc)), fun j y v' e1 e2 e3 => ?_⟩, fun y c' e => ?_, I.free, I.freeC, fun p hp => ?_, tracked ⟨oc, hoc, I.freeC x c hc⟩ hs, by simpa using I.len⟩ ⟨c, hs, .inr hc⟩
    · exact (hs.2 b (Nat.ne_of_lt (Nat.lt_of_lt_of_le (Heap.lt_size e) (I.ok.cab x c hfn hc)))).trans (I.base.keep b o e n hb hx)
    · obtain ⟨sl, e1⟩ := I.base.slot b o e n hb hx
      exact ⟨sl, (hs.2 b (Nat.ne_of_lt (Nat.lt_of_lt_of_le (Heap.lt_size e) (I.ok.cab x c hfn hc)))).trans e1⟩
    · obtain ⟨o', e1⟩ := I.base.there b o e hx
      exact ⟨o', (hs.2 b (Nat.ne_of_lt (Nat.lt_of_lt_of_le (Heap.lt_size e) (I.ok.cab x c hfn hc)))).trans e1⟩
    · by_cases hj : j = i
      · subst hj
        rw [hi] at e1; cases e1
        rw [List.getElem?_set_self hiσ] at e2
        cases e2
        exact ⟨u, r, .inr ⟨.inl hk, c, hc, hc'⟩⟩
      · rw [List.getElem?_set_ne (Ne.symm hj)] at e2
        obtain ⟨u', r', q⟩ := hl j y v' e1 e2 e3
        refine ⟨u', r', ?_⟩
        rcases q with q | ⟨k, c', e, z'⟩
        · exact .inl q
        · refine .inr ⟨k, c', e, z'.sameBut hs ?_⟩
          rintro rfl
          exact hj (nodup_ix hN e1 (I.ok.inj _ _ _ e hc ▸ hi))
    · by_cases hcc : c' = c
      · subst hcc; exact ⟨_, hc'⟩
      · obtain ⟨w2, z2⟩ := I.cell y c' e
        exact ⟨w2, z2.sameBut hs hcc⟩
    · obtain ⟨e, n, ne, nf, d⟩ := I.pin p hp
      refine ⟨(hs.2 p.1 ?_).trans e, n, ne, nf, d⟩
      intro q
      rw [q, hoc] at e
      have q' : oc = p.2 := Option.some.inj e
      exact d w' (by rw [← q']; exact hocd)
theorem store_ok {M : Model} {A : Around} {E : Value → Shared → Prop} {i : Nat} {x : Str} {v : V} {u : Value} {Q : Unit → Shared → Prop} (I : Inv X pins σ H s) (hN : X.N.Nodup) (hi : X.N[i]? = some x) (hx : Loc X.env.scope x) (r : RelV v u)
    (h : ∀ s', Inv X pins (σ.set i (some v)) H s' → Q () s') (hf : X.fn x = true ∨ X.env.scope.names.lookup x = some .local := by first | exact .inl rfl | exact .inr rfl | assumption) : wpAny M A (storeName X.env x u) Q E s :=
  store_ok2 I hN hi hx r (fun s' I' _ => h s' I') hf
theorem Inv.call' {s' : Shared} {ch : List Addr} (I : Inv X pins σ H s) (ho : s'.os = s.os) (u : Un (frs X.stack) ch H H' s.heap s'.heap) (hok : HOk X.prog X.w H' s'.heap) (hg : AllBare s'.gens)
    (hch : ∀ b ∈ ch, (b ∈ X.ex ∨ X.s₀.heap.objs.size ≤ b) ∧ b ≠ X.env.locals ∧ (∀ x c, X.env.cells.lookup x = some c → c ≠ b) ∧ ∀ p ∈ X.pn ++ pins, p.1 ≠ b) : Inv X pins σ H' s' := by
  obtain ⟨h', g', d', t', o'⟩ := s'
  have e : o' = s.os := ho
  subst e
  exact I.call (g' := g') (t' := t') (d' := d') u hok hg hch
end
noncomputable abbrev XK := Value → Option Addr → Hp → Prop
noncomputable abbrev St := List (Option V)
noncomputable abbrev VK := V → Hp → Prop
noncomputable abbrev TE := St → Hp → VK → Prop
noncomputable abbrev TT := St → Hp → (Bool → Hp → Prop) → Prop
noncomputable abbrev TA := St → Hp → (List V → Hp → Prop) → Prop
structure Ends where
  nx : St → Hp → Prop
  rt : VK
  bk : St → Hp → Prop := fun _ _ => False
  ct : St → Hp → Prop := fun _ _ => False
noncomputable abbrev TS := Ends → St → Hp → Prop
noncomputable def EP (X : Cx) (pins : List (Addr × Obj)) (σ : St) (Q : VK) (u : Value) (s' : Shared) : Prop := ∃ v H', Inv X pins σ H' s' ∧ RelV v u ∧ Q v H'
noncomputable def TP (X : Cx) (pins : List (Addr × Obj)) (σ : St) (Q : Bool → Hp → Prop) (b : Bool) (s' : Shared) : Prop := ∃ H', Inv X pins σ H' s' ∧ Q b H'
noncomputable def AP (X : Cx) (pins : List (Addr × Obj)) (σ : St) (Q : List V → Hp → Prop) (us : List Value) (s' : Shared) : Prop := ∃ vs H', Inv X pins σ H' s' ∧ Vals vs us ∧ Q vs H'
noncomputable def SP (X : Cx) (pins : List (Addr × Obj)) (D : Ends) (f : Flow) (s' : Shared) : Prop :=
  match f with
  | .next => ∃ σ' H', Inv X pins σ' H' s' ∧ D.nx σ' H'
  | .brk => ∃ σ' H', Inv X pins σ' H' s' ∧ D.bk σ' H'
  | .cont => ∃ σ' H', Inv X pins σ' H' s' ∧ D.ct σ' H'
  | .ret u => ∃ v σ' H', Inv X pins σ' H' s' ∧ RelV v u ∧ D.rt v H'
noncomputable def PE (X : Cx) (e : Expr) (t : TE) : Prop :=
  ∀ (pins : List (Addr × Obj)) (s : Shared) (σ : St) (H : Hp) (Q : VK), Inv X pins σ H s → t σ H Q → wpAny (model X.prog X.w) X.A (eval e X.env) (EP X pins σ Q) X.xe s
noncomputable def PT (X : Cx) (e : Expr) (t : TT) : Prop :=
  ∀ (pins : List (Addr × Obj)) (s : Shared) (σ : St) (H : Hp) (Q : Bool → Hp → Prop), Inv X pins σ H s → t σ H Q → wpAny (model X.prog X.w) X.A (isTrue e X.env (eval e X.env)) (TP X pins σ Q) X.xe s
noncomputable def PW (X : Cx) (e : Expr) (t : TT) : Prop :=
  ∀ (whole : Sem Value) (pins : List (Addr × Obj)) (s : Shared) (σ : St) (H : Hp) (Q : Bool → Hp → Prop), Inv X pins σ H s → t σ H Q → wpAny (model X.prog X.w) X.A (isTrue e X.env whole) (TP X pins σ Q) X.xe s
theorem PW.pt {X : Cx} {e : Expr} {t : TT} (h : PW X e t) : PT X e t := h _
noncomputable def PA (X : Cx) (es : List Expr) (t : TA) : Prop :=
  ∀ (pos : Pos) (pins : List (Addr × Obj)) (s : Shared) (σ : St) (H : Hp) (Q : List V → Hp → Prop), Inv X pins σ H s → t σ H Q → wpAny (model X.prog X.w) X.A (spliced (backTo pos (starEach es X.env))) (AP X pins σ Q) X.xe s
noncomputable def PS (X : Cx) (st : Stmt) (t : TS) : Prop :=
  ∀ (pins : List (Addr × Obj)) (s : Shared) (σ : St) (H : Hp) (D : Ends), Inv X pins σ H s → t D σ H → wpAny (model X.prog X.w) X.A (exec st X.env) (SP X pins D) X.xe s
noncomputable def PSs (X : Cx) (st : List Stmt) (t : TS) : Prop :=
  ∀ (pins : List (Addr × Obj)) (s : Shared) (σ : St) (H : Hp) (D : Ends), Inv X pins σ H s → t D σ H → wpAny (model X.prog X.w) X.A (execs st X.env) (SP X pins D) X.xe s
theorem thn {α : Type} {t : Sem α} {Q Q' : α → Shared → Prop} {M : Model} {A : Around} {E : Value → Shared → Prop} {s : Shared} (h : wpAny M A t Q E s) (hQ : ∀ a s, Q a s → Q' a s) : wpAny M A t Q' E s := wpAny_mono h hQ fun _ _ x => x
end L2
namespace L2
open PySem PySem.Spec PyProof.Rows
section
variable {X : Cx}
noncomputable def tVar (i : Nat) : TE := fun σ H Q => ∃ v, σ[i]? = some (some v) ∧ Q v H
noncomputable def tC (v : V) : TE := fun _ H Q => Q v H
theorem pe_var {i : Nat} {x : Str} {pos : Pos} (hN : X.N[i]? = some x) (hv : Vis X.env.scope x) (hd : (x == ("__debug__" : Str)) = false := by decide) (hcd : (x == ("__classdict__" : Str)) = false := by decide) : PE X (.Name x pos) (tVar i) := by
  intro pins s σ H Q I h
  obtain ⟨v, e, h⟩ := h
  obtain ⟨m, hn, hl⟩ := I.loc
  obtain ⟨u, r, l⟩ := hl i x v hN e hv
  have fin : EP X pins σ Q u s := ⟨v, H, I, r, h⟩
  rcases l with ⟨hk, hm⟩ | ⟨hk, c, hc, hcell⟩
  · exact wpAny_Name (wpAny_loadName_local I.ok.kind hk hn hm fin) hd
  · rcases hk with hk | hk
    · exact wpAny_Name (wpAny_loadName_cell I.ok.kind hk hc hcell fin) hd
    · exact wpAny_Name (wpAny_loadName_free I.ok.kind hk hc hcell fin hcd) hd
theorem pe_int {i j pos} : PE X (.Constant (.int i) j pos) (tC (.int i)) := fun _ _ _ H _ I h => wpAny_Constant_int ⟨.int i, H, I.tok _, ⟨_, rfl⟩, h⟩
theorem pe_bl {b j pos} : PE X (.Constant (.bool b) j pos) (tC (.bl b)) := fun _ _ _ H _ I h => Constant_bool ⟨.bl b, H, I, rfl, h⟩
theorem pe_str {x j pos} : PE X (.Constant (.str x) j pos) (tC (.str x)) := fun _ _ _ H _ I h => Calls.Constant_str ⟨.str x, H, I.tok _, ⟨_, rfl⟩, h⟩
noncomputable def Gl (X : Cx) (x : Str) : Prop := X.env.kindOf x = some .globalImplicit
theorem ld_glob {E : Value → Shared → Prop} {pins : List (Addr × Obj)} {s : Shared} {σ : St} {H : Hp} {x : Str} {u : Value} {pos : Pos} {Q : Value → Shared → Prop} (I : Inv X pins σ H s) (hg : Gl X x) (hm : X.mg x = some u) (h : Q u s)
    (hd : (x == ("__debug__" : Str)) = false := by decide) : wpAny (model X.prog X.w) X.A (eval (.Name x pos) X.env) Q E s :=
  Calls.Name_function_global I.ok.kind hg (Calls.loadGlobal_global (by rw [I.ok.glob]; exact I.mod.glob.keeps I.bk) hm h) hd
theorem ld_blt {E : Value → Shared → Prop} {pins : List (Addr × Obj)} {s : Shared} {σ : St} {H : Hp} {x : Str} {u : Value} {pos : Pos} {Q : Value → Shared → Prop} (I : Inv X pins σ H s) (hg : Gl X x) (hm : X.mg x = none) (hv : bootBuiltins x = some u) (h : Q u s)
    (hn : x ≠ "__name__" := by decide) (hd : (x == ("__debug__" : Str)) = false := by decide) : wpAny (model X.prog X.w) X.A (eval (.Name x pos) X.env) Q E s := by
  obtain ⟨mb, h1, h2⟩ := I.mod.blt
  exact Calls.Name_function_global I.ok.kind hg (Calls.loadGlobal_builtin (by rw [I.ok.glob]; exact I.mod.glob.keeps I.bk) hm (by rw [I.ok.blt]; exact h1.keeps I.bk) ((h2 x hn).trans hv) h) hd
theorem pe_glob {x : Str} {v : V} {u : Value} {pos : Pos} (hg : Gl X x) (hm : X.mg x = some u) (r : RelV v u) (hd : (x == ("__debug__" : Str)) = false := by decide) : PE X (.Name x pos) (tC v) :=
  fun _ _ _ H _ I h => ld_glob I hg hm ⟨v, H, I, r, h⟩ hd
theorem pe_bltn {x : Str} {v : V} {u : Value} {pos : Pos} (hg : Gl X x) (hm : X.mg x = none) (hv : bootBuiltins x = some u) (r : RelV v u) (hn : x ≠ "__name__" := by decide) (hd : (x == ("__debug__" : Str)) = false := by decide) : PE X (.Name x pos) (tC v) :=
  fun _ _ _ H _ I h => ld_blt I hg hm hv ⟨v, H, I, r, h⟩ hn hd
variable {a b : Expr} {ta tb : TE} {pos : Pos}
variable {tA tB' : TT} {rest : List Expr}
noncomputable def tOr (t u : TT) : TT := fun σ H Q => t σ H fun c H1 => if c = true then Q true H1 else u σ H1 Q
noncomputable def tNot (t : TT) : TT := fun σ H Q => t σ H fun c H1 => Q (!c) H1
theorem pw_or1 (ha : PT X a tA) : PW X (.BoolOp .Or [a] pos) tA := by
  intro wh pins s σ H Q I h
  refine isTrue_or (thn (ha pins s σ H Q I h) fun c s1 e => ?_)
  cases c with
  | false => exact isTrue_or_nil e
  | true => exact e
theorem pw_or (ha : PT X a tA) (hb : PW X (.BoolOp .Or (b :: rest) pos) tB') : PW X (.BoolOp .Or (a :: b :: rest) pos) (tOr tA tB') := by
  intro wh pins s σ H Q I h
  refine isTrue_or (thn (ha pins s σ H _ I h) fun c s1 ⟨H1, I1, q1⟩ => ?_)
  cases c with
  | true => exact ⟨H1, I1, q1⟩
  | false => exact hb wh pins s1 σ H1 Q I1 q1
theorem pt_not (ha : PT X a tA) : PT X (.UnaryOp .Not a pos) (tNot tA) := by
  intro pins s σ H Q I h
  exact isTrue_not (ha pins s σ H (fun c H1 => Q (!c) H1) I h)
noncomputable def tAndV (ta tb : TE) : TE := fun σ H Q => ta σ H fun x H1 => ∃ c, x = .bl c ∧ if c = true then tb σ H1 Q else Q (.bl false) H1
theorem pe_one {op} {t : TE} (h : PE X a t) : PE X (.BoolOp op [a] pos) t := fun pins s σ H Q I hw => BoolOp_one (h pins s σ H Q I hw)
theorem pe_and (ha : PE X a ta) (hb : PE X (.BoolOp .And (b :: rest) pos) tb) : PE X (.BoolOp .And (a :: b :: rest) pos) (tAndV ta tb) := by
  intro pins s σ H Q I h
  refine BoolOp_and (thn (ha pins s σ H _ I h) fun v s1 ⟨x, H1, I1, r1, q1⟩ => ?_)
  obtain ⟨c, rfl, q1⟩ := q1
  cases r1
  refine wpAny_truthy_bool ?_
  cases c with
  | true => exact hb pins s1 σ H1 Q I1 q1
  | false => exact ⟨.bl false, H1, I1, rfl, q1⟩
noncomputable def tIf (t : TT) (ta tb : TE) : TE := fun σ H Q => t σ H fun c H1 => if c = true then ta σ H1 Q else tb σ H1 Q
theorem pe_ifExp {c : Expr} (hc : PT X c tA) (ha : PE X a ta) (hb : PE X b tb) : PE X (.IfExp c a b pos) (tIf tA ta tb) := by
  intro pins s σ H Q I h
  refine wpAny_IfExp (thn (hc pins s σ H _ I h) fun d s1 ⟨H1, I1, q1⟩ => ?_)
  cases d with
  | true => exact ha pins s1 σ H1 Q I1 q1
  | false => exact hb pins s1 σ H1 Q I1 q1
end
end L2
namespace L2
open PySem PySem.Spec PyProof.Rows
noncomputable def SqL (K : PySem.W.Frag) (H : Hp) (a : Addr) (xs : List V) : Prop :=
  Rd H a (.lst xs) ∨
    ∃ (o : Obj) (its : Array Value) (n : Nat), K.lookup a = some o ∧ o.cls = .type "list" ∧ o.dict = none ∧ o.data = .seq its n ∧ its.size ≤ sizeLine ∧ Vals xs its.toList
noncomputable def SqT (K : PySem.W.Frag) (H : Hp) (a : Addr) (xs : List V) : Prop :=
  Rd H a (.tup xs) ∨
    ∃ (o : Obj) (its : Array Value) (n : Nat), K.lookup a = some o ∧ o.cls = .type "tuple" ∧ o.data = .seq its n ∧ its.size ≤ sizeLine ∧ Vals xs its.toList
noncomputable def absV : Value → Option V
  | .none => some .non
  | .bool b => some (.bl b)
  | .int i _ => some (.int i)
  | .str x _ => some (.str x)
  | .bytes b _ => some (.byt b)
  | .float b _ => some (.flt b)
  | .ref a => some (.ref a)
  | .type n => some (.ty n)
  | _ => none
theorem RelV.abs {x : V} {u : Value} (r : RelV x u) : absV u = some x := by
  cases x with
  | non => cases r; rfl
  | bl _ => cases r; rfl
  | int _ => obtain ⟨t, rfl⟩ := r; rfl
  | str _ => obtain ⟨t, rfl⟩ := r; rfl
  | byt _ => obtain ⟨t, rfl⟩ := r; rfl
  | flt _ => obtain ⟨t, rfl⟩ := r; rfl
  | ref _ => cases r; rfl
  | ty _ => cases r; rfl
theorem RelV.inj {x y : V} {u : Value} (r : RelV x u) (q : RelV y u) : x = y := Option.some.inj (r.abs.symm.trans q.abs)
theorem Vals.inj : ∀ {xs ys : List V} {us : List Value}, Vals xs us → Vals ys us → xs = ys
  | _, _, _, .nil, .nil => rfl
  | _, _, _, .cons r t, .cons r' t' => by rw [r.inj r', Vals.inj t t']
section
variable {X : Cx} {pins : List (Addr × Obj)} {σ : St} {H : Hp} {s : Shared} {a : Addr} {xs ys : List V}
theorem SqL.of {K : PySem.W.Frag} (h : H a = some (.lst xs)) : SqL K H a xs := .inl (.inl h)
theorem SqT.of {K : PySem.W.Frag} (h : H a = some (.tup xs)) : SqT K H a xs := .inl (.inl h)
theorem Inv.list (I : Inv X pins σ H s) (h : SqL X.K H a xs) : ∃ its : List Value, Vals xs its ∧ PlainL s.heap a its.toArray ∧ xs.length ≤ sizeLine := by
  rcases h with h | ⟨o, its, n, hk, hc, hd, hs, hz, r⟩
  · obtain ⟨z, its, n, r, e⟩ := h.ok I.hok
    exact ⟨its, r, ⟨_, n, e, rfl, rfl, rfl⟩, z⟩
  · refine ⟨its.toList, r, ⟨o, n, I.kIn a o hk, hc, hd, by simpa using hs⟩, ?_⟩
    have e := r.length
    simp only [Array.length_toList] at e
    omega
theorem Inv.tuple (I : Inv X pins σ H s) (h : SqT X.K H a xs) : ∃ its : List Value, Vals xs its ∧ IsTup s.heap a its.toArray ∧ xs.length ≤ sizeLine := by
  rcases h with h | ⟨o, its, n, hk, hc, hs, hz, r⟩
  · obtain ⟨z, its, r, p⟩ := h.ok I.hok
    exact ⟨its, r, p, z⟩
  · refine ⟨its.toList, r, ⟨o, I.kIn a o hk, hc, n, by simpa using hs⟩, ?_⟩
    have e := r.length
    simp only [Array.length_toList] at e
    omega
theorem Inv.list_inj (I : Inv X pins σ H s) (h : SqL X.K H a xs) (h' : SqL X.K H a ys) : xs = ys := by
  obtain ⟨its, r, ⟨o, n, e, _, _, d⟩, _⟩ := I.list h
  obtain ⟨its', r', ⟨o', n', e', _, _, d'⟩, _⟩ := I.list h'
  rw [e] at e'; cases e'
  rw [d] at d'
  injection d' with d1 _
  have : its = its' := by simpa using congrArg Array.toList d1
  subst this
  exact r.inj r'
theorem Inv.tuple_inj (I : Inv X pins σ H s) (h : SqT X.K H a xs) (h' : SqT X.K H a ys) : xs = ys := by
  obtain ⟨its, r, ⟨o, e, _, n, d⟩, _⟩ := I.tuple h
  obtain ⟨its', r', ⟨o', e', _, n', d'⟩, _⟩ := I.tuple h'
  rw [e] at e'; cases e'
  rw [d] at d'
  injection d' with d1 _
  have : its = its' := by simpa using congrArg Array.toList d1
  subst this
  exact r.inj r'
end
noncomputable abbrev Cx.wish (X : Cx) (E : Value → Shared → Prop) : Cx := { X with xe := E }
noncomputable abbrev Cx.nox (X : Cx) : Cx := X.wish fun _ _ => False
theorem Cx.Ok.wish {X : Cx} (ok : X.Ok) (E : Value → Shared → Prop) : (X.wish E).Ok :=
  ⟨ok.mod, ok.kind, ok.glob, ok.blt, ok.above, ok.inj, ok.has, ok.cab, ok.hd, ok.frames, ok.stk, ok.exf, ok.bs, ok.bsz, ok.noex, ok.exfs, ok.funs, ok.frf⟩
theorem Cx.Ok.unwish {X : Cx} {E : Value → Shared → Prop} (ok : (X.wish E).Ok) : X.Ok :=
  ⟨ok.mod, ok.kind, ok.glob, ok.blt, ok.above, ok.inj, ok.has, ok.cab, ok.hd, ok.frames, ok.stk, ok.exf, ok.bs, ok.bsz, ok.noex, ok.exfs, ok.funs, ok.frf⟩
section
variable {X : Cx} {pins : List (Addr × Obj)} {σ : St} {H : Hp} {s : Shared} {E : Value → Shared → Prop}
theorem Inv.wish (I : Inv X pins σ H s) (E : Value → Shared → Prop) : Inv (X.wish E) pins σ H s := ⟨I.ok.wish E, I.os, I.bare, I.base, I.loc, I.cell, I.free, I.freeC, I.pin, I.hok, I.len⟩
theorem Inv.unwish (I : Inv (X.wish E) pins σ H s) : Inv X pins σ H s := ⟨I.ok.unwish, I.os, I.bare, I.base, I.loc, I.cell, I.free, I.freeC, I.pin, I.hok, I.len⟩
theorem SP.unwish {D : Ends} {f : Flow} {s' : Shared} (h : SP (X.wish E) pins D f s') : SP X pins D f s' := by
  cases f with
  | next => obtain ⟨σ', H', I, q⟩ := h; exact ⟨σ', H', I.unwish, q⟩
  | brk => obtain ⟨σ', H', I, q⟩ := h; exact ⟨σ', H', I.unwish, q⟩
  | cont => obtain ⟨σ', H', I, q⟩ := h; exact ⟨σ', H', I.unwish, q⟩
  | ret u => obtain ⟨v, σ', H', I, r, q⟩ := h; exact ⟨v, σ', H', I.unwish, r, q⟩
theorem PE.nox {e : Expr} {t : TE} (h : PE X.nox e t) : PE X e t := fun pins s σ H Q I hw =>
  wpAny_mono (h pins s σ H Q (I.wish _) hw) (fun _ _ ⟨v, H', I', r, q⟩ => ⟨v, H', I'.unwish, r, q⟩) fun _ _ z => False.elim z
theorem PT.nox {e : Expr} {t : TT} (h : PT X.nox e t) : PT X e t := fun pins s σ H Q I hw =>
  wpAny_mono (h pins s σ H Q (I.wish _) hw) (fun _ _ ⟨H', I', q⟩ => ⟨H', I'.unwish, q⟩) fun _ _ z => False.elim z
theorem PSs.nox {st : List Stmt} {t : TS} (h : PSs X.nox st t) : PSs X st t := fun pins s σ H D I hw =>
  wpAny_mono (h pins s σ H D (I.wish _) hw) (fun _ _ q => q.unwish) fun _ _ z => False.elim z
end
section
variable {X : Cx} {st : Stmt} {rest : List Stmt} {t u : TS} {e : Expr} {te : TE} {pos : Pos}
noncomputable def tNext : TS := fun D σ H => D.nx σ H
noncomputable def tSeq (t u : TS) : TS := fun D σ H => t { D with nx := u D } σ H
theorem pss_nil : PSs X [] tNext := fun _ _ σ H _ I h => wpAny_execs_nil ⟨σ, H, I, h⟩
theorem pss_cons (h1 : PS X st t) (h2 : PSs X rest u) : PSs X (st :: rest) (tSeq t u) := by
  intro pins s σ H D I h
  refine wpAny_execs_cons (thn (h1 pins s σ H { D with nx := u D } I h) fun f s1 q => ?_)
  cases f with
  | next =>
    obtain ⟨σ', H', I', q⟩ := q
    exact h2 pins s1 σ' H' D I' q
  | ret v => exact q
  | brk => exact q
  | cont => exact q
theorem Inv.quiet {pins : List (Addr × Obj)} {σ : St} {H : Hp} {s : Shared} (I : Inv X pins σ H s) : interactive X.env = false := by simp [interactive, I.ok.kind]
noncomputable def tDrop (te : TE) : TS := fun D σ H => te σ H fun _ H1 => D.nx σ H1
theorem ps_expr (he : PE X e te) (hs : swapsWith e none pos.line X.env = pure false := by rfl) : PS X (.Expr e pos) (tDrop te) := by
  intro pins s σ H D I h
  exact wpAny_Expr_any (thn (he pins s σ H _ I h) fun v s1 ⟨x, H1, I1, r1, q1⟩ => ⟨σ, H1, I1, q1⟩) I.quiet hs
noncomputable def tRet (te : TE) : TS := fun D σ H => te σ H D.rt
theorem ps_ret (he : PE X e te) : PS X (.Return (some e) pos) (tRet te) := by
  intro pins s σ H D I h
  exact wpAny_Return_some (thn (he pins s σ H _ I h) fun v s1 ⟨x, H1, I1, r1, q1⟩ => ⟨x, σ, H1, I1, r1, q1⟩)
noncomputable def tIfS (c : TT) (t u : TS) : TS := fun D σ H => c σ H fun b H1 => if b = true then t D σ H1 else u D σ H1
theorem ps_if {c : Expr} {a b : List Stmt} {tc : TT} (hc : PT X c tc) (ha : PSs X a t) (hb : PSs X b u) : PS X (.If c a b pos) (tIfS tc t u) := by
  intro pins s σ H D I h
  refine wpAny_If (thn (hc pins s σ H _ I h) fun d s1 ⟨H1, I1, q1⟩ => ?_)
  cases d with
  | true => exact ha pins s1 σ H1 D I1 q1
  | false => exact hb pins s1 σ H1 D I1 q1
noncomputable def tNever : TS := fun _ _ _ => False
theorem ps_never : PS X st tNever := fun _ _ _ _ _ _ h => h.elim
end
noncomputable abbrev TG := V → St → Hp → (St → Hp → Prop) → Prop
noncomputable abbrev TGs := List V → St → Hp → (St → Hp → Prop) → Prop
noncomputable def PG (X : Cx) (target : Expr) (t : TG) : Prop :=
  ∀ (pins : List (Addr × Obj)) (s : Shared) (σ : St) (H : Hp) (v : V) (u : Value) (Q : St → Hp → Prop), Inv X pins σ H s → RelV v u → t v σ H Q →
    wpAny (model X.prog X.w) X.A (assign target X.env u) (fun _ s' => ∃ σ' H', Inv X pins σ' H' s' ∧ Q σ' H') X.xe s
noncomputable def PGs (X : Cx) (ts : List Expr) (t : TGs) : Prop :=
  ∀ (pins : List (Addr × Obj)) (s : Shared) (σ : St) (H : Hp) (vs : List V) (us : List Value) (Q : St → Hp → Prop), Inv X pins σ H s → Vals vs us → t vs σ H Q →
    wpAny (model X.prog X.w) X.A (assignInOrder ((assignEach ts X.env).map (·.2)) us) (fun _ s' => ∃ σ' H', Inv X pins σ' H' s' ∧ Q σ' H') X.xe s
section
variable {X : Cx} {pos : Pos}
noncomputable def gName (i : Nat) : TG := fun v σ H Q => Q (σ.set i (some v)) H
theorem pg_name {i : Nat} {x : Str} (hN : X.N.Nodup) (hi : X.N[i]? = some x) (hx : Loc X.env.scope x) (hf : X.fn x = true ∨ X.env.scope.names.lookup x = some .local := by first | exact .inl rfl | exact .inr rfl | assumption) : PG X (.Name x pos) (gName i) := by
  intro pins s σ H v u Q I r h
  exact wpAny_assign_Name (store_ok I hN hi hx r (fun s' I' => ⟨_, H, I', h⟩) hf)
noncomputable def gNil : TGs := fun vs σ H Q => vs = [] ∧ Q σ H
noncomputable def gCons (t : TG) (u : TGs) : TGs := fun vs σ H Q => ∃ v r, vs = v :: r ∧ t v σ H fun σ' H' => u r σ' H' Q
theorem pgs_nil : PGs X [] gNil := by
  intro pins s σ H vs us Q I r h
  obtain ⟨e, h⟩ := h
  subst e
  cases r
  exact assignInOrder_nil ⟨σ, H, I, h⟩
theorem pgs_cons {e : Expr} {es : List Expr} {t : TG} {u : TGs} (h1 : PG X e t) (h2 : PGs X es u)
    (hs : (assignEach (e :: es) X.env).map (·.2) = assign e X.env :: (assignEach es X.env).map (·.2) := by rfl) : PGs X (e :: es) (gCons t u) := by
  intro pins s σ H vs us Q I r h
  obtain ⟨v, vr, e1, h⟩ := h
  subst e1
  cases r with
  | cons r rr =>
    rw [hs]
    refine assignInOrder_cons (thn (h1 pins s σ H _ _ _ I r h) fun _ s1 ⟨σ1, H1, I1, q1⟩ => ?_)
    exact h2 pins s1 σ1 H1 _ _ Q I1 rr q1
noncomputable def gTup (K : PySem.W.Frag) (n : Nat) (t : TGs) : TG := fun v σ H Q => ∃ a xs, v = .ref a ∧ SqT K H a xs ∧ xs.length = n ∧ t xs σ H Q
theorem pg_tup {es : List Expr} {k : Nat} {t : TGs} {n : Nat} (hc : X.calm = true) (h : PGs X es t)
    (hn : (assignEach es X.env).length = n := by rfl) (hst : (assignEach es X.env).findIdx? (·.1) = none := by rfl) : PG X (.Tuple es k pos) (gTup X.K n t) := by
  intro pins s σ H v u Q I r hw
  obtain ⟨a, xs, e1, hq, hl, hw⟩ := hw
  subst e1
  cases r
  obtain ⟨its, rv, ht, hz⟩ := I.tuple hq
  refine assign_Tuple_tuple (I.ok.hd hc) ht (by simp [hn, ← hl, rv.length]) hst fun h' hx => ?_
  have I1 : Inv X pins σ H { s with heap := h' } := I.kept (t' := s.toks) fun b o e => hx b o (Nat.ne_of_lt (Heap.lt_size e)) e
  exact h pins _ σ H xs _ Q I1 (by simpa using rv) hw
noncomputable def tAsg (te : TE) (g : TG) : TS := fun D σ H => te σ H fun x H1 => g x σ H1 D.nx
theorem ps_set {i : Nat} {x : Str} {e : Expr} {te : TE} {pos' : Pos} (hN : X.N.Nodup) (hi : X.N[i]? = some x) (hx : Loc X.env.scope x) (he : PE X e te) (hs : swapsWith e (some (.Name x pos')) pos.line X.env = pure false := by rfl) (hf : X.fn x = true ∨ X.env.scope.names.lookup x = some .local := by first | exact .inl rfl | exact .inr rfl | assumption) :
    PS X (.Assign [.Name x pos'] e pos) (tAsg te (gName i)) := by
  intro pins s σ H D I h
  refine wpAny_Assign_Name (thn (he pins s σ H _ I h) fun v s1 ⟨y, H1, I1, r1, q1⟩ => ?_) hs
  exact store_ok I1 hN hi hx r1 (fun s2 I2 => ⟨_, H1, I2, q1⟩) hf
end
section
variable {X : Cx} {pos : Pos}
end
structure It where
  go : Nat → Hp → Prop
  yld : Nat → Hp → V → Hp → Prop
  stop : Nat → Hp → Prop
noncomputable def FpOk (X : Cx) (pins : List (Addr × Obj)) (H : Hp) (b : Addr) : Prop :=
  H b = none ∧ b ≠ X.env.locals ∧ b ∉ X.fs ∧ (b ∈ X.ex ∨ X.s₀.heap.objs.size ≤ b) ∧ (∀ x c, X.env.cells.lookup x = some c → c ≠ b) ∧ ∀ p ∈ X.pn ++ pins, p.1 ≠ b
theorem Inv.fpOk {X : Cx} {pins : List (Addr × Obj)} {σ : St} {H H' : Hp} {s : Shared} {b : Addr} (I : Inv X pins σ H s) (hb : s.heap.objs.size ≤ b) (hn : H' b = none) : FpOk X pins H' b := by
  refine ⟨hn, Nat.ne_of_gt (Nat.lt_of_lt_of_le I.lt hb), I.nofs hb, .inr (Nat.le_trans I.sz hb), fun x c e z => ?_, fun p hp z => ?_⟩
  · obtain ⟨v, q⟩ := I.cell x c e
    exact absurd (Nat.lt_of_lt_of_le q.lt (by rw [z]; exact hb)) (Nat.lt_irrefl _)
  · exact absurd (Nat.lt_of_lt_of_le (Heap.lt_size (I.pin p hp).1) (by rw [z]; exact hb)) (Nat.lt_irrefl _)
structure Turn (P : Program) (w : World) (K : PySem.W.Frag) (tg : Expr) (J : It) (fp : List Addr) (it : Addr) (tn : Nat → Heap → Prop) : Prop where
  mem : it ∈ fp
  obj : ∀ i h, tn i h → ∀ b ∈ fp, ∃ o, h.get? b = some o ∧ ∀ v, o.data ≠ .cell v
  keep : ∀ i h h', tn i h → (∀ b ∈ fp, ∀ o, h.get? b = some o → h'.get? b = some o) → tn i h'
  item : ∀ (X : Cx), X.prog = P → X.w = w → X.K = K → X.calm = true → ∀ (i : Nat) (pins : List (Addr × Obj)) (s : Shared) (σ : St) (H : Hp) (E : Value → Shared → Prop), Inv X pins σ H s → (∀ b ∈ fp, FpOk X pins H b) → tn i s.heap → J.go i H →
    wpAny (model P w) X.A (pyNext (.ref it)) (fun r s1 => ∃ u, r = some u ∧
      wpAny (model P w) X.A (letOwnedTupleGo tg (.ref it) u) (fun _ s2 => ∃ x H', Inv X pins σ H' s2 ∧ RelV x u ∧ J.yld i H x H' ∧ tn (i + 1) s2.heap ∧ ∀ b ∈ fp, H' b = none) E s1) E s
  done : ∀ (X : Cx), X.prog = P → X.w = w → X.K = K → X.calm = true → ∀ (i : Nat) (pins : List (Addr × Obj)) (s : Shared) (σ : St) (H : Hp) (E : Value → Shared → Prop), Inv X pins σ H s → (∀ b ∈ fp, FpOk X pins H b) → tn i s.heap → J.stop i H →
    wpAny (model P w) X.A (pyNext (.ref it)) (fun r s1 => r = none ∧ Inv X pins σ H s1) E s
  self : ∀ (A : Around) (i : Nat) (s : Shared) (Q : Value → Shared → Prop) (E : Value → Shared → Prop), tn i s.heap → Q (.ref it) s → wpAny (model P w) A (pyIter (.ref it)) Q E s
noncomputable abbrev TI := St → Hp → (It → Hp → Prop) → Prop
noncomputable def PIE (X : Cx) (pins : List (Addr × Obj)) (σ : St) (tg : Expr) (R : It → Hp → Prop) (itv : Value) (s2 : Shared) : Prop :=
  ∃ (it : Addr) (fp : List Addr) (tn : Nat → Heap → Prop) (J : It) (H' : Hp), itv = .ref it ∧ Inv X pins σ H' s2 ∧ Turn X.prog X.w X.K tg J fp it tn ∧ tn 0 s2.heap ∧ (∀ b ∈ fp, FpOk X pins H' b) ∧ R J H'
noncomputable def PI (X : Cx) (tg iter : Expr) (wi : TI) : Prop :=
  ∀ (pins : List (Addr × Obj)) (s : Shared) (σ : St) (H : Hp) (R : It → Hp → Prop), Inv X pins σ H s → wi σ H R →
    wpAny (model X.prog X.w) X.A (eval iter X.env) (fun v s1 => wpAny (model X.prog X.w) X.A (pyIter v) (PIE X pins σ tg R) X.xe s1) X.xe s
theorem go_of {M : Model} {A : Around} {E : Value → Shared → Prop} {s : Shared} {tg : Expr} {it : Addr} {u : Value} {o : Obj} {n : String} {vs : Array Value} {Q : Unit → Shared → Prop} (ho : s.heap.get? it = some o) (hc : o.cls = .type n) (hd : o.data = .fields vs)
    (hn : ["enumerate", "zip", "dict_itemiterator", "dict_reverseitemiterator", "odict_iterator", "itertools.zip_longest", "itertools.pairwise"].contains n = false) (hQ : Q () s) : wpAny M A (letOwnedTupleGo tg (.ref it) u) Q E s := by
  unfold letOwnedTupleGo
  cases tg <;> first
    | exact wpAny_pure hQ
    | (cases u <;> first
        | exact wpAny_pure hQ
        | (refine wpAny_bind (wpAny_load ho ?_)
           rw [hc, hd]
           show wpAny M A (if (["enumerate", "zip", "dict_itemiterator", "dict_reverseitemiterator", "odict_iterator", "itertools.zip_longest", "itertools.pairwise"].contains n && vs[0]? == some (rawInt _)) = true then _ else _) Q E s
           rw [if_neg (by intro h; rw [hn, Bool.false_and] at h; cases h)]
           exact wpAny_pure hQ))
noncomputable def Itl (K : PySem.W.Frag) (a : Addr) : It :=
  ⟨fun i H => ∃ xs x, SqL K H a xs ∧ xs[i]? = some x, fun i H x H' => H' = H ∧ ∀ xs, SqL K H a xs → xs[i]? = some x, fun i H => ∃ xs, SqL K H a xs ∧ xs.length ≤ i⟩
noncomputable def Itt (K : PySem.W.Frag) (a : Addr) : It :=
  ⟨fun i H => ∃ xs x, SqT K H a xs ∧ xs[i]? = some x, fun i H x H' => H' = H ∧ ∀ xs, SqT K H a xs → xs[i]? = some x, fun i H => ∃ xs, SqT K H a xs ∧ xs.length ≤ i⟩
noncomputable def Itr (lo : Int) (n : Nat) : It := ⟨fun i _ => i < n, fun i H x H' => H' = H ∧ x = .int (lo + i), fun i _ => n ≤ i⟩
theorem turn_list {P : Program} {w : World} {K : PySem.W.Frag} {tg : Expr} (a it : Addr) : Turn P w K tg (Itl K a) [it] it (fun i h => h.IsListIter it a i) where
  mem := by simp
  obj := fun i h st b hb => by
    have e : b = it := by simpa using hb
    subst e
    obtain ⟨o, e, c, d⟩ := st
    exact ⟨o, e, fun v z => by rw [d] at z; cases z⟩
  keep := fun i h h' st k => st.at fun o e => k it (by simp) o e
  item := by
    intro X hP hw hK hc i pins s σ H E I hf st hg
    subst hP hw hK
    obtain ⟨xs, x, hq, hx⟩ := hg
    obtain ⟨its, rv, p, hz⟩ := I.list hq
    obtain ⟨u, hu, ru⟩ := rv.get hx
    obtain ⟨f0, f1, f2, f3, f4, f5⟩ := hf it (by simp)
    refine wpAny_pyNext_list_item st p.isList (x := u) (by simpa using hu) fun h' st' sb => ?_
    have I1 : Inv X pins σ H { s with heap := h' } := I.turned (t' := s.toks) (fun b o hb e => (sb.2 b hb).trans e) f0 f1 f3 f4 f5
    obtain ⟨o, e, c, d⟩ := id st'
    exact ⟨u, rfl, go_of (s := { s with heap := h' }) e c d (by decide) ⟨x, H, I1, ru, ⟨rfl, fun ys hy => by rw [I.list_inj hy hq]; exact hx⟩, st', fun b hb => (hf b hb).1⟩⟩
  done := by
    intro X hP hw hK hc i pins s σ H E I hf st hg
    subst hP hw hK
    obtain ⟨xs, hq, hx⟩ := hg
    obtain ⟨its, rv, p, hz⟩ := I.list hq
    obtain ⟨f0, f1, f2, f3, f4, f5⟩ := hf it (by simp)
    have hl := rv.length
    exact wpAny_pyNext_list_end (I.ok.hd hc) st p.isList (by simp; omega) fun h' eb => ⟨rfl, I.turned (t' := s.toks) (fun b o hb e => eb b o hb e) f0 f1 f3 f4 f5⟩
  self := fun _ _ _ _ _ st h => wpAny_pyIter_listiter st h
theorem turn_tuple {P : Program} {w : World} {K : PySem.W.Frag} {tg : Expr} (a it : Addr) : Turn P w K tg (Itt K a) [it] it (fun i h => h.IsTupleIter it a i) where
  mem := by simp
  obj := fun i h st b hb => by
    have e : b = it := by simpa using hb
    subst e
    obtain ⟨o, e, c, d⟩ := st
    exact ⟨o, e, fun v z => by rw [d] at z; cases z⟩
  keep := fun i h h' st k => st.at fun o e => k it (by simp) o e
  item := by
    intro X hP hw hK hc i pins s σ H E I hf st hg
    subst hP hw hK
    obtain ⟨xs, x, hq, hx⟩ := hg
    obtain ⟨its, rv, p, hz⟩ := I.tuple hq
    obtain ⟨u, hu, ru⟩ := rv.get hx
    obtain ⟨f0, f1, f2, f3, f4, f5⟩ := hf it (by simp)
    refine wpAny_pyNext_tuple_item st (show s.heap.IsTuple a its.toArray from p) (x := u) (by simpa using hu) fun h' st' sb => ?_
    have I1 : Inv X pins σ H { s with heap := h' } := I.turned (t' := s.toks) (fun b o hb e => (sb.2 b hb).trans e) f0 f1 f3 f4 f5
    obtain ⟨o, e, c, d⟩ := id st'
    exact ⟨u, rfl, go_of (s := { s with heap := h' }) e c d (by decide) ⟨x, H, I1, ru, ⟨rfl, fun ys hy => by rw [I.tuple_inj hy hq]; exact hx⟩, st', fun b hb => (hf b hb).1⟩⟩
  done := by
    intro X hP hw hK hc i pins s σ H E I hf st hg
    subst hP hw hK
    obtain ⟨xs, hq, hx⟩ := hg
    obtain ⟨its, rv, p, hz⟩ := I.tuple hq
    obtain ⟨f0, f1, f2, f3, f4, f5⟩ := hf it (by simp)
    have hl := rv.length
    exact wpAny_pyNext_tuple_end (I.ok.hd hc) st (show s.heap.IsTuple a its.toArray from p) (by simp; omega) fun h' eb => ⟨rfl, I.turned (t' := s.toks) (fun b o hb e => eb b o hb e) f0 f1 f3 f4 f5⟩
  self := fun _ _ _ _ _ st h => wpAny_pyIter_tupleiter st h
theorem turn_range {P : Program} {w : World} {K : PySem.W.Frag} {tg : Expr} (it : Addr) (lo : Int) (n : Nat) : Turn P w K tg (Itr lo n) [it] it (fun i h => IsRangeIter h it (lo + (i : Nat) * 1) ((n : Int) - (i : Nat)) 1) where
  mem := by simp
  obj := fun i h st b hb => by
    have e : b = it := by simpa using hb
    subst e
    exact ⟨_, st, fun v z => by
      have z' : Data.fields _ = Data.cell v := z
      cases z'⟩
  keep := fun i h h' st k => k it (by simp) _ st
  item := by
    intro X hP hw hK hc i pins s σ H E I hf st hg
    subst hP hw hK
    obtain ⟨f0, f1, f2, f3, f4, f5⟩ := hf it (by simp)
    have W := Walks.range (prog := X.prog) (w := X.w) (I.ok.hd hc) it lo 1 n
    refine W.item i s _ _ hg st fun v h' tk hv st' kk => ?_
    obtain ⟨t, rfl⟩ := hv
    have I1 : Inv X pins σ H { s with heap := h', toks := tk } := I.turned (fun b o hb e => kk b o (by simpa using hb) e) f0 f1 f3 f4 f5
    refine ⟨_, rfl, go_of (s := { s with heap := h', toks := tk }) (n := "range_iterator") st' rfl rfl (by decide) ⟨.int (lo + i), H, I1, ⟨t, ?_⟩, ⟨rfl, rfl⟩, st', fun b hb => (hf b hb).1⟩⟩
    rw [Int.mul_one]
  done := by
    intro X hP hw hK hc i pins s σ H E I hf st hg
    subst hP hw hK
    obtain ⟨f0, f1, f2, f3, f4, f5⟩ := hf it (by simp)
    exact wpAny_pyNext_range_end (I.ok.hd hc) st (by have : n ≤ i := hg; omega) fun h' eb => ⟨rfl, I.turned (t' := s.toks) (fun b o hb e => eb b o hb e) f0 f1 f3 f4 f5⟩
  self := fun _ _ _ _ _ st h => wpAny_pyIter_rangeiter st h
end L2
namespace L2
open PySem PySem.Spec PyProof.Rows
section
variable {X : Cx} {tg : Expr}
theorem range_it {pins : List (Addr × Obj)} {σ : St} {H : Hp} {s : Shared} {R : It → Hp → Prop} {E : Value → Shared → Prop} {lo hi : Int} {t u v : Tok} {tk : Nat} (I : Inv X pins σ H s) (h1 : -(2 ^ 62) ≤ lo) (h2 : lo < 2 ^ 62) (h3 : -(2 ^ 62) ≤ hi) (h4 : hi < 2 ^ 62)
    (q : R (Itr lo (hi - lo).toNat) H) : wpAny (model X.prog X.w) X.A (pyIter (.ref s.heap.objs.size)) (PIE X pins σ tg R) E { s with heap := s.heap.push { cls := .type "range", data := .fields #[.int lo t, .int hi u, .int 1 v] }, toks := tk } := by
  refine wpAny_pyIter_range (IsRange.new ..) (small_one h1 h2 h3 h4) ?_
  have I1 : Inv X pins σ H { s with heap := s.heap.push { cls := .type "range", data := .fields #[.int lo t, .int hi u, .int 1 v] }, toks := tk } := I.kept fun b o e => Heap.get?_push_of_some _ e
  refine ⟨(s.heap.push { cls := .type "range", data := .fields #[.int lo t, .int hi u, .int 1 v] }).objs.size, [(s.heap.push { cls := .type "range", data := .fields #[.int lo t, .int hi u, .int 1 v] }).objs.size], _, _, H, rfl,
    I1.kept (t' := tk) fun b o e => Heap.get?_push_of_some _ e, turn_range _ lo (hi - lo).toNat, ?_, fun b hb => ?_, q⟩
  · have e1 : lo + ((0 : Nat) : Int) * 1 = lo := by simp
    have e2 : (((hi - lo).toNat : Nat) : Int) - ((0 : Nat) : Int) = Builtin.Range.rangeSize lo hi 1 := by rw [rangeSize_one]; split <;> omega
    show IsRangeIter _ _ (lo + ((0 : Nat) : Int) * 1) ((((hi - lo).toNat : Nat) : Int) - ((0 : Nat) : Int)) 1
    rw [e1, e2]
    exact Heap.get?_push_size _ rfl
  · have e : b = (s.heap.push { cls := .type "range", data := .fields #[.int lo t, .int hi u, .int 1 v] }).objs.size := by simpa using hb
    subst e
    exact I1.fpOk (Nat.le_refl _) (I1.hok.fresh (Nat.le_refl _))
noncomputable def iRng1 (ta : TA) : TI := fun σ H R => ta σ H fun vs H1 => ∃ j : Int, vs = [.int j] ∧ -(2 ^ 62) ≤ j ∧ j < 2 ^ 62 ∧ R (Itr 0 j.toNat) H1
noncomputable def iRng2 (ta : TA) : TI := fun σ H R => ta σ H fun vs H1 => ∃ i j : Int, vs = [.int i, .int j] ∧ (-(2 ^ 62) ≤ i ∧ i < 2 ^ 62 ∧ -(2 ^ 62) ≤ j ∧ j < 2 ^ 62) ∧ R (Itr i (j - i).toNat) H1
theorem pi_range1 {a : Expr} {ta : TA} {p pos : Pos} (hg : Gl X "range") (hm : X.mg "range" = none) (ha : PA X [a] ta) (hs : starEach [a] X.env = [(false, eval a X.env)] := by rfl) : PI X tg (.Call (.Name "range" p) [a] [] pos) (iRng1 ta) := by
  intro pins s σ H R I h
  refine Call_ (ld_blt I hg hm boot_range (PyProof.Rows.callWith_type1 (thn (ha pos pins s σ H _ I h) fun us s1 ⟨vs, H1, I1, r1, q1⟩ => ?_) hs rfl))
  obtain ⟨j, e, q1, q2, q⟩ := q1
  subst e
  cases r1 with
  | cons r rr =>
    cases rr
    obtain ⟨t, rfl⟩ := r
    exact call_range_1 (range_it I1 (by omega) (by omega) q1 q2 (by simpa using q))
theorem pi_range2 {a b : Expr} {ta : TA} {p pos : Pos} (hg : Gl X "range") (hm : X.mg "range" = none) (ha : PA X [a, b] ta) (hs : starEach [a, b] X.env = [(false, eval a X.env), (false, eval b X.env)] := by rfl) (hs2 : starEach [b] X.env = [(false, eval b X.env)] := by rfl) :
    PI X tg (.Call (.Name "range" p) [a, b] [] pos) (iRng2 ta) := by
  intro pins s σ H R I h
  refine Call_ (ld_blt I hg hm boot_range (PyProof.Rows.callWith_type1 (thn (ha pos pins s σ H _ I h) fun us s1 ⟨vs, H1, I1, r1, q1⟩ => ?_) (by rw [hs, hs2]) (by rw [hs2]; rfl)))
  obtain ⟨i, j, e, ⟨q1, q2, q3, q4⟩, q⟩ := q1
  subst e
  cases r1 with
  | cons r rr =>
    cases rr with
    | cons r' rr =>
      cases rr
      obtain ⟨t, rfl⟩ := r
      obtain ⟨t', rfl⟩ := r'
      exact call_range_2 (range_it I1 q1 q2 q3 q4 q)
noncomputable def tFor (wi : TI) (g : TG) (tb : TS) : TS := fun D σ H => wi σ H fun J H1 => ∃ W : Nat → Nat → St → Hp → Prop, (∃ m, W 0 m σ H1) ∧ ∀ i m σ H, W i m σ H →
  (J.stop i H ∧ D.nx σ H) ∨ (J.go i H ∧ ∃ N : St → Hp → Prop, (∀ σ' H', N σ' H' → ∃ m', m' < m ∧ W (i + 1) m' σ' H') ∧ ∀ x H', J.yld i H x H' → g x σ H' fun σ2 H2 => tb { D with nx := N, ct := N, bk := D.nx } σ2 H2)
noncomputable def pinsAt (fp : List Addr) (h : Heap) : List (Addr × Obj) := fp.filterMap fun b => (h.get? b).map fun o => (b, o)
theorem mem_pinsAt {fp : List Addr} {h : Heap} {b : Addr} {o : Obj} (hb : b ∈ fp) (e : h.get? b = some o) : (b, o) ∈ pinsAt fp h := List.mem_filterMap.mpr ⟨b, hb, by rw [e]; rfl⟩
theorem of_pinsAt {fp : List Addr} {h : Heap} {p : Addr × Obj} (hp : p ∈ pinsAt fp h) : p.1 ∈ fp ∧ h.get? p.1 = some p.2 := by
  obtain ⟨b, hb, e⟩ := List.mem_filterMap.mp hp
  cases q : h.get? b with
  | none => rw [q] at e; cases e
  | some o =>
    rw [q] at e
    have e' : (b, o) = p := Option.some.inj e
    subst e'
    exact ⟨hb, q⟩
theorem Inv.pinned {pins : List (Addr × Obj)} {σ : St} {H : Hp} {s : Shared} {fp : List Addr} (I : Inv X pins σ H s) (hf : ∀ b ∈ fp, FpOk X pins H b) (ho : ∀ b ∈ fp, ∃ o, s.heap.get? b = some o ∧ ∀ v, o.data ≠ .cell v) : Inv X (pins ++ pinsAt fp s.heap) σ H s :=
  I.pins_of fun p hp => (List.mem_append.mp hp).elim (fun z => I.pin p (List.mem_append_right _ z)) fun z => by
    obtain ⟨hb, e⟩ := of_pinsAt z
    obtain ⟨f0, f1, f2, _⟩ := hf p.1 hb
    obtain ⟨o, e', d⟩ := ho p.1 hb
    rw [e] at e'; cases e'
    exact ⟨e, f0, f1, f2, d⟩
theorem Inv.unpinned {pins pl : List (Addr × Obj)} {σ : St} {H : Hp} {s : Shared} (I : Inv X (pins ++ pl) σ H s) : Inv X pins σ H s := I.pins_of fun p hp => I.pin p (List.mem_append_right _ (List.mem_append_left _ hp))
theorem ps_for {iter : Expr} {body : List Stmt} {wi : TI} {g : TG} {tb : TS} {pos : Pos} (hp : PassesOwn (model X.prog X.w) X.A X.env X.xe) (hc : X.calm = true) (hi : PI X tg iter wi) (hg : PG X tg g) (hb : PSs X body tb)
    (hs : ∀ x, foldedSetIterable iter X.env x = pure x := by intro _; rfl) : PS X (.For tg iter body [] pos) (tFor wi g tb) := by
  intro pins s σ H D I h
  refine wpAny_For (thn (hi pins s σ H _ I h) fun v s1 h1 => thn h1 fun itv s2 h2 => ?_) hs
  obtain ⟨it, fp, tn, J, H2, e, I2, T, st2, f2, W, ⟨m0, w0⟩, turn⟩ := h2
  subst e
  -- what stays true of the iterator's objects through the loop
  have stat : ∀ {H' : Hp}, (∀ b ∈ fp, H' b = none) → ∀ b ∈ fp, FpOk X pins H' b := fun hn b hb => ⟨hn b hb, (f2 b hb).2⟩
  refine codeAny_forLoop_any (fun n s' => ∃ i σ' H', Inv X pins σ' H' s' ∧ tn i s'.heap ∧ (∀ b ∈ fp, H' b = none) ∧ W i n σ' H') ?_ m0 ⟨0, σ, H2, I2, st2, fun b hb => (f2 b hb).1, w0⟩
  rintro n s3 ⟨i, σ3, H3, I3, st3, fr3, w3⟩
  rcases turn i n σ3 H3 w3 with ⟨stop, qn⟩ | ⟨go, N, hN, step⟩
  · refine wpAny_passesOwn hp (thn (T.done X rfl rfl rfl hc i pins s3 σ3 H3 X.xe I3 (stat fr3) st3 stop) fun r s4 ⟨hr, I4⟩ => ?_)
    subst hr
    exact wpAny_execs_nil ⟨σ3, H3, I4, qn⟩
  · refine wpAny_passesOwn hp (thn (T.item X rfl rfl rfl hc i pins s3 σ3 H3 X.xe I3 (stat fr3) st3 go) fun r s4 ⟨u, hr, h4⟩ => ?_)
    subst hr
    refine wpAny_passesOwn hp (thn h4 fun _ s5 ⟨x, H5, I5, r5, y5, st5, fr5⟩ => ?_)
    have I5' := I5.pinned (stat fr5) (T.obj _ _ st5)
    refine wpAny_passesOwn hp (thn (hg _ s5 σ3 H5 x u _ I5' r5 (step x H5 y5)) fun _ s6 ⟨σ6, H6, I6, q6⟩ => ?_)
    refine wpAny_passesOwn hp (thn (hb _ s6 σ6 H6 _ I6 q6) fun f s7 q7 => ?_)
    have again : ∀ {σ7 : St} {H7 : Hp}, Inv X (pins ++ pinsAt fp s5.heap) σ7 H7 s7 → N σ7 H7 → ∃ m, m < n ∧ ∃ i σ' H', Inv X pins σ' H' s7 ∧ tn i s7.heap ∧ (∀ b ∈ fp, H' b = none) ∧ W i m σ' H' := fun {σ7 H7} I7 n7 => by
      obtain ⟨m', hm, w7⟩ := hN σ7 H7 n7
      refine ⟨m', hm, i + 1, σ7, H7, I7.unpinned, T.keep _ _ _ st5 fun b hb o e => (I7.pin (b, o) (List.mem_append_right _ (List.mem_append_right _ (mem_pinsAt hb e)))).1, fun b hb => ?_, w7⟩
      obtain ⟨o, e, d⟩ := T.obj _ _ st5 b hb
      exact (I7.pin (b, o) (List.mem_append_right _ (List.mem_append_right _ (mem_pinsAt hb e)))).2.1
    cases f with
    | next => obtain ⟨σ7, H7, I7, n7⟩ := q7; exact again I7 n7
    | cont => obtain ⟨σ7, H7, I7, n7⟩ := q7; exact again I7 n7
    | brk => obtain ⟨σ7, H7, I7, q7⟩ := q7; exact ⟨σ7, H7, I7.unpinned, q7⟩
    | ret v => obtain ⟨x7, σ7, H7, I7, r7, q7⟩ := q7; exact ⟨x7, σ7, H7, I7.unpinned, r7, q7⟩
end
end L2
namespace L2
open PySem PySem.Spec PyProof.Rows
noncomputable abbrev R2 := V → V → Hp → VK → Prop
noncomputable def OpR (X : Cx) (f : Value → Value → Sem Value) (r : R2) : Prop :=
  ∀ (pins : List (Addr × Obj)) (s : Shared) (σ : St) (H : Hp) (x y : V) (v u : Value) (Q : VK), Inv X pins σ H s → RelV x v → RelV y u → r x y H Q →
    wpAny (model X.prog X.w) X.A (f v u) (EP X pins σ Q) X.xe s
noncomputable def UnR (X : Cx) (f : Value → Sem Value) (r : V → Hp → VK → Prop) : Prop :=
  ∀ (pins : List (Addr × Obj)) (s : Shared) (σ : St) (H : Hp) (x : V) (v : Value) (Q : VK), Inv X pins σ H s → RelV x v → r x H Q →
    wpAny (model X.prog X.w) X.A (f v) (EP X pins σ Q) X.xe s
noncomputable def CallR (X : Cx) (f : Value) (r : List V → Hp → VK → Prop) : Prop :=
  ∀ (pins : List (Addr × Obj)) (s : Shared) (σ : St) (H : Hp) (xs : List V) (us : List Value) (Q : VK), Inv X pins σ H s → Vals xs us → r xs H Q →
    wpAny (model X.prog X.w) X.A (call f us) (EP X pins σ Q) X.xe s
noncomputable def TruR (X : Cx) (r : V → Hp → (Bool → Hp → Prop) → Prop) : Prop :=
  ∀ (pins : List (Addr × Obj)) (s : Shared) (σ : St) (H : Hp) (x : V) (v : Value) (Q : Bool → Hp → Prop), Inv X pins σ H s → RelV x v → r x H Q →
    wpAny (model X.prog X.w) X.A (truthy v) (TP X pins σ Q) X.xe s
noncomputable def tOp (r : R2) (ta tb : TE) : TE := fun σ H Q => ta σ H fun x H1 => tb σ H1 fun y H2 => r x y H2 Q
noncomputable def tUn (r : V → Hp → VK → Prop) (ta : TE) : TE := fun σ H Q => ta σ H fun x H1 => r x H1 Q
noncomputable def rI (C : Int → Int → Prop) (g : Int → Int → V) : R2 := fun x y H Q => ∃ i j, x = .int i ∧ y = .int j ∧ C i j ∧ Q (g i j) H
noncomputable def rI0 (g : Int → Int → V) : R2 := fun x y H Q => ∃ i j, x = .int i ∧ y = .int j ∧ Q (g i j) H
noncomputable def rU (g : Int → V) : V → Hp → VK → Prop := fun x H Q => ∃ i, x = .int i ∧ Q (g i) H
section
variable {X : Cx} {a b c : Expr} {ta tb tc : TE} {pos : Pos}
theorem binT (ha : PE X a ta) (hb : PE X b tb) {pins : List (Addr × Obj)} {s : Shared} {σ : St} {H : Hp} {R : V → V → Hp → Prop} (I : Inv X pins σ H s)
    (h : ta σ H fun x H1 => tb σ H1 fun y H2 => R x y H2) {Q : Value → Shared → Prop} {f : Value → Value → Sem Value}
    (hf : ∀ v u s2 x y H2, Inv X pins σ H2 s2 → RelV x v → RelV y u → R x y H2 → wpAny (model X.prog X.w) X.A (f v u) Q X.xe s2) :
    wpAny (model X.prog X.w) X.A (eval a X.env) (fun v s₁ => wpAny (model X.prog X.w) X.A (eval b X.env) (fun u s₂ => wpAny (model X.prog X.w) X.A (f v u) Q X.xe s₂) X.xe s₁) X.xe s := by
  refine thn (ha pins s σ H _ I h) fun v s1 ⟨x, H1, I1, r1, q1⟩ => ?_
  refine thn (hb pins s1 σ H1 _ I1 q1) fun u s2 ⟨y, H2, I2, r2, q2⟩ => ?_
  exact hf v u s2 x y H2 I2 r1 r2 q2
theorem pe_op {op : Operator} {r : R2} (ho : OpR X (binaryOp op) r) (ha : PE X a ta) (hb : PE X b tb) : PE X (.BinOp a op b pos) (tOp r ta tb) := by
  intro pins s σ H Q I h
  exact wpAny_BinOp (binT ha hb I h fun v u s2 x y H2 I2 rx ry q => ho pins s2 σ H2 x y v u Q I2 rx ry q)
theorem pe_un {op : UnaryOp} {r : V → Hp → VK → Prop} (ho : UnR X (unaryOp op) r) (ha : PE X a ta) : PE X (.UnaryOp op a pos) (tUn r ta) := by
  intro pins s σ H Q I h
  exact UnaryOp_ (thn (ha pins s σ H _ I h) fun v s1 ⟨x, H1, I1, r1, q1⟩ => ho pins s1 σ H1 x v Q I1 r1 q1)
theorem opI {f : Value → Value → Sem Value} {C : Int → Int → Prop} {g : Int → Int → Int}
    (rule : ∀ (i j : Int) (t u : Tok) (s : Shared) (Q : Value → Shared → Prop) (E : Value → Shared → Prop), C i j → Q (.int (g i j) s.toks) { s with toks := s.toks + 1 } → wpAny (model X.prog X.w) X.A (f (.int i t) (.int j u)) Q E s) :
    OpR X f (rI C fun i j => .int (g i j)) := by
  intro pins s σ H x y v u Q I rx ry h
  obtain ⟨i, j, rfl, rfl, hc, q⟩ := h
  obtain ⟨t, rfl⟩ := rx
  obtain ⟨t', rfl⟩ := ry
  exact rule i j t t' s _ _ hc ⟨.int (g i j), H, I.tok _, ⟨_, rfl⟩, q⟩
theorem opI0 {f : Value → Value → Sem Value} {g : Int → Int → Int}
    (rule : ∀ (i j : Int) (t u : Tok) (s : Shared) (Q : Value → Shared → Prop) (E : Value → Shared → Prop), Q (.int (g i j) s.toks) { s with toks := s.toks + 1 } → wpAny (model X.prog X.w) X.A (f (.int i t) (.int j u)) Q E s) :
    OpR X f (rI0 fun i j => .int (g i j)) := by
  intro pins s σ H x y v u Q I rx ry h
  obtain ⟨i, j, rfl, rfl, q⟩ := h
  obtain ⟨t, rfl⟩ := rx
  obtain ⟨t', rfl⟩ := ry
  exact rule i j t t' s _ _ ⟨.int (g i j), H, I.tok _, ⟨_, rfl⟩, q⟩
theorem opB0 {f : Value → Value → Sem Value} {g : Int → Int → Bool}
    (rule : ∀ (i j : Int) (t u : Tok) (s : Shared) (Q : Value → Shared → Prop) (E : Value → Shared → Prop), Q (.bool (g i j)) s → wpAny (model X.prog X.w) X.A (f (.int i t) (.int j u)) Q E s) :
    OpR X f (rI0 fun i j => .bl (g i j)) := by
  intro pins s σ H x y v u Q I rx ry h
  obtain ⟨i, j, rfl, rfl, q⟩ := h
  obtain ⟨t, rfl⟩ := rx
  obtain ⟨t', rfl⟩ := ry
  exact rule i j t t' s _ _ ⟨.bl (g i j), H, I, rfl, q⟩
noncomputable def CMul (i j : Int) : Prop := (-(2 ^ 64) < i ∧ i < 2 ^ 64) ∨ (-(2 ^ 64) < j ∧ j < 2 ^ 64)
theorem CMul.ok {i j : Int} (h : CMul i j) : IntMulOk i j := by
  rcases h with ⟨h1, h2⟩ | ⟨h1, h2⟩
  · exact .of_left (intBits_le_64 h1 h2)
  · exact .of_right (intBits_le_64 h1 h2)
theorem op_add : OpR X (binaryOp .Add) (rI0 fun i j => .int (i + j)) := opI0 fun _ _ _ _ _ _ _ q => add_int q
theorem op_sub : OpR X (binaryOp .Sub) (rI0 fun i j => .int (i - j)) := opI0 fun _ _ _ _ _ _ _ q => sub_int q
theorem op_mul : OpR X (binaryOp .Mult) (rI CMul fun i j => .int (i * j)) := opI fun _ _ _ _ _ _ _ hc q => mul_int q hc.ok
theorem op_mod : OpR X (binaryOp .Mod) (rI (fun _ j => 0 < j) fun i j => .int (i % j)) := opI fun i j _ _ _ _ _ hc q => by
  have h1 : (0 : Int) < j := hc
  exact mod_int' (by omega) (by rw [Int.fmod_eq_emod_of_nonneg i (by omega)]; exact q)
theorem unI {f : Value → Sem Value} {g : Int → Int}
    (rule : ∀ (i : Int) (t : Tok) (s : Shared) (Q : Value → Shared → Prop) (E : Value → Shared → Prop), Q (.int (g i) s.toks) { s with toks := s.toks + 1 } → wpAny (model X.prog X.w) X.A (f (.int i t)) Q E s) :
    UnR X f (rU fun i => .int (g i)) := by
  intro pins s σ H x v Q I rx h
  obtain ⟨i, rfl, q⟩ := h
  obtain ⟨t, rfl⟩ := rx
  exact rule i t s _ _ ⟨.int (g i), H, I.tok _, ⟨_, rfl⟩, q⟩
theorem un_neg : UnR X (unaryOp .USub) (rU fun i => .int (-i)) := unI fun _ _ _ _ _ q => neg_int q
end
noncomputable def scal : V → V → Bool
  | .non, .non => true | .non, .int _ => true | .int _, .non => true | .non, .bl _ => true | .bl _, .non => true | .non, .str _ => true | .str _, .non => true
  | .int _, .int _ => true | .bl _, .bl _ => true | .str _, .str _ => true | .byt _, .byt _ => true
  | .int _, .str _ => true | .str _, .int _ => true | .bl _, .str _ => true | .str _, .bl _ => true
  | _, _ => false
noncomputable def rEq : R2 := fun x y H Q => scal x y = true ∧ Q (.bl (decide (x = y))) H
noncomputable def rNe : R2 := fun x y H Q => scal x y = true ∧ Q (.bl (!decide (x = y))) H
theorem dec_int {i j : Int} : decide (V.int i = V.int j) = (i == j) := by
  rw [Bool.eq_iff_iff]
  simp
theorem dec_bl {i j : Bool} : decide (V.bl i = V.bl j) = (i == j) := by
  rw [Bool.eq_iff_iff]
  simp
theorem dec_str {i j : Str} : decide (V.str i = V.str j) = (i == j) := by
  rw [Bool.eq_iff_iff]
  simp
theorem dec_byt {i j : Array UInt8} : decide (V.byt i = V.byt j) = (i.toList == j.toList) := by
  rw [Bool.eq_iff_iff]
  cases i
  cases j
  simp
section
variable {X : Cx} {a b c : Expr} {ta tb tc : TE} {pos : Pos}
theorem fin_bl {pins : List (Addr × Obj)} {σ : St} {H : Hp} {s : Shared} {Q : VK} {k k' : Bool} (I : Inv X pins σ H s) (q : Q (.bl k) H) (e : k = k') : EP X pins σ Q (.bool k') s := by
  subst e
  exact ⟨.bl k, H, I, rfl, q⟩
theorem op_eq : OpR X (compareOp .Eq) rEq := by
  intro pins s σ H x y v u Q I rx ry h
  obtain ⟨hs, q⟩ := h
  cases x with
  | non =>
    cases rx
    cases y with
    | non => cases ry; exact PySem.EqNone.eq_none_none (fin_bl I q (by simp))
    | bl j => cases ry; exact PySem.EqNone.eq_none_bool (fin_bl I q (by simp))
    | int j => obtain ⟨t', rfl⟩ := ry; exact PySem.EqNone.eq_none_int (fin_bl I q (by simp))
    | str j => obtain ⟨t', rfl⟩ := ry; exact PySem.EqNone.eq_none_str (fin_bl I q (by simp))
    | _ => exact absurd (show false = true from hs) Bool.false_ne_true
  | bl i =>
    cases rx
    cases y with
    | non => cases ry; exact PySem.EqNone.eq_bool_none (fin_bl I q (by simp))
    | bl j => cases ry; exact eq_bool (fin_bl I q dec_bl)
    | str j => obtain ⟨t', rfl⟩ := ry; exact PySem.EqMixed.eq_bool_str (fin_bl I q (by simp))
    | _ => exact absurd (show false = true from hs) Bool.false_ne_true
  | int i =>
    obtain ⟨t, rfl⟩ := rx
    cases y with
    | non => cases ry; exact PySem.EqNone.eq_int_none (fin_bl I q (by simp))
    | int j => obtain ⟨t', rfl⟩ := ry; exact eq_int (fin_bl I q dec_int)
    | str j => obtain ⟨t', rfl⟩ := ry; exact PySem.EqMixed.eq_int_str (fin_bl I q (by simp))
    | _ => exact absurd (show false = true from hs) Bool.false_ne_true
  | str i =>
    obtain ⟨t, rfl⟩ := rx
    cases y with
    | non => cases ry; exact PySem.EqNone.eq_str_none (fin_bl I q (by simp))
    | bl j => cases ry; exact PySem.EqMixed.eq_str_bool (fin_bl I q (by simp))
    | int j => obtain ⟨t', rfl⟩ := ry; exact PySem.EqMixed.eq_str_int (fin_bl I q (by simp))
    | str j => obtain ⟨t', rfl⟩ := ry; exact eq_str (fin_bl I q dec_str)
    | _ => exact absurd (show false = true from hs) Bool.false_ne_true
  | byt i =>
    obtain ⟨t, rfl⟩ := rx
    cases y with
    | byt j => obtain ⟨t', rfl⟩ := ry; exact PySem.W.eq_bytes (fin_bl I q dec_byt)
    | _ => exact absurd (show false = true from hs) Bool.false_ne_true
  | _ => cases y <;> exact absurd (show false = true from hs) Bool.false_ne_true
theorem op_ne : OpR X (compareOp .NotEq) rNe := by
  intro pins s σ H x y v u Q I rx ry h
  obtain ⟨hs, q⟩ := h
  cases x with
  | non =>
    cases rx
    cases y with
    | non => cases ry; exact PySem.EqNone.ne_none_none (fin_bl I q (by simp))
    | bl j => cases ry; exact PySem.EqNone.ne_none_bool (fin_bl I q (by simp))
    | int j => obtain ⟨t', rfl⟩ := ry; exact PySem.EqNone.ne_none_int (fin_bl I q (by simp))
    | str j => obtain ⟨t', rfl⟩ := ry; exact PySem.EqNone.ne_none_str (fin_bl I q (by simp))
    | _ => exact absurd (show false = true from hs) Bool.false_ne_true
  | bl i =>
    cases rx
    cases y with
    | non => cases ry; exact PySem.EqNone.ne_bool_none (fin_bl I q (by simp))
    | bl j => cases ry; exact ne_bool (fin_bl I q (congrArg not dec_bl))
    | str j => obtain ⟨t', rfl⟩ := ry; exact PySem.EqMixed.ne_bool_str (fin_bl I q (by simp))
    | _ => exact absurd (show false = true from hs) Bool.false_ne_true
  | int i =>
    obtain ⟨t, rfl⟩ := rx
    cases y with
    | non => cases ry; exact PySem.EqNone.ne_int_none (fin_bl I q (by simp))
    | int j => obtain ⟨t', rfl⟩ := ry; exact ne_int (fin_bl I q (congrArg not dec_int))
    | str j => obtain ⟨t', rfl⟩ := ry; exact PySem.EqMixed.ne_int_str (fin_bl I q (by simp))
    | _ => exact absurd (show false = true from hs) Bool.false_ne_true
  | str i =>
    obtain ⟨t, rfl⟩ := rx
    cases y with
    | non => cases ry; exact PySem.EqNone.ne_str_none (fin_bl I q (by simp))
    | bl j => cases ry; exact PySem.EqMixed.ne_str_bool (fin_bl I q (by simp))
    | int j => obtain ⟨t', rfl⟩ := ry; exact PySem.EqMixed.ne_str_int (fin_bl I q (by simp))
    | str j => obtain ⟨t', rfl⟩ := ry; exact ne_str (fin_bl I q (congrArg not dec_str))
    | _ => exact absurd (show false = true from hs) Bool.false_ne_true
  | byt i =>
    obtain ⟨t, rfl⟩ := rx
    cases y with
    | byt j => obtain ⟨t', rfl⟩ := ry; exact PySem.W.ne_bytes (fin_bl I q (congrArg not dec_byt))
    | _ => exact absurd (show false = true from hs) Bool.false_ne_true
  | _ => cases y <;> exact absurd (show false = true from hs) Bool.false_ne_true
theorem op_lt : OpR X (compareOp .Lt) (rI0 fun i j => .bl (decide (i < j))) := opB0 fun _ _ _ _ _ _ _ q => lt_int q
theorem op_le : OpR X (compareOp .LtE) (rI0 fun i j => .bl (decide (i ≤ j))) := opB0 fun _ _ _ _ _ _ _ q => le_int q
theorem op_gt : OpR X (compareOp .Gt) (rI0 fun i j => .bl (decide (j < i))) := opB0 fun _ _ _ _ _ _ _ q => gt_int q
theorem OpR.or {f : Value → Value → Sem Value} {r r' : R2} (h : OpR X f r) (h' : OpR X f r') : OpR X f (fun x y H Q => r x y H Q ∨ r' x y H Q) := by
  intro pins s σ H x y v u Q I rx ry q
  rcases q with q | q
  · exact h pins s σ H x y v u Q I rx ry q
  · exact h' pins s σ H x y v u Q I rx ry q
theorem nomark (b : Expr) {op : CmpOp} (h : op ≠ .In := by decide) (h2 : op ≠ .NotIn := by decide) : behindInMarks op b = false := by
  have e1 : (op == CmpOp.In) = false := by cases op <;> first | rfl | exact absurd rfl h
  have e2 : (op == CmpOp.NotIn) = false := by cases op <;> first | rfl | exact absurd rfl h2
  cases b <;> simp [behindInMarks, e1, e2]
theorem pe_cmpR {op : CmpOp} {r : R2} (ho : OpR X (compareOp op) r) (ha : PE X a ta) (hb : PE X b tb) (hm : behindInMarks op b = false) : PE X (.Compare a [op] [b] pos) (tOp r ta tb) := by
  intro pins s σ H Q I h
  exact wpAny_Compare1 (binT ha hb I h fun v u s2 x y H2 I2 rx ry q => ho pins s2 σ H2 x y v u Q I2 rx ry q) hm
noncomputable def tTest (t : TE) : TT := fun σ H Q => t σ H fun x H' => ∃ k, x = .bl k ∧ Q k H'
theorem pt_cmpR {op : CmpOp} {r : R2} (ho : OpR X (compareOp op) r) (ha : PE X a ta) (hb : PE X b tb) (hm : behindInMarks op b = false) : PT X (.Compare a [op] [b] pos) (tTest (tOp r ta tb)) := by
  intro pins s σ H Q I h
  refine wpAny_isTrue_Compare1 (thn (ha pins s σ H _ I h) fun v s1 ⟨x, H1, I1, r1, q1⟩ => thn (hb pins s1 σ H1 _ I1 q1) fun u s2 ⟨y, H2, I2, r2, q2⟩ =>
    thn (ho pins s2 σ H2 x y v u _ I2 r1 r2 q2) fun c s3 ⟨z, H3, I3, r3, k, e, q3⟩ => ?_) hm
  subst e
  cases r3
  exact wpAny_truthy_bool ⟨H3, I3, q3⟩
noncomputable def tChain (r r' : R2) (ta tb tc : TE) : TE := fun σ H Q => ta σ H fun x H1 => tb σ H1 fun y H2 => r x y H2 fun z H3 => ∃ k, z = .bl k ∧
  (if k = true then tc σ H3 fun w' H4 => r' y w' H4 Q else Q (.bl false) H3)
theorem pe_chain {op op' : CmpOp} {r r' : R2} (ho : OpR X (compareOp op) r) (ho' : OpR X (compareOp op') r') (ha : PE X a ta) (hb : PE X b tb) (hc : PE X c tc)
    (hm : lastMarks [op, op'] [b, c] = false := by with_unfolding_all rfl) : PE X (.Compare a [op, op'] [b, c] pos) (tChain r r' ta tb tc) := by
  intro pins s σ H Q I h
  refine Compare_chain (thn (ha pins s σ H _ I h) fun v s1 ⟨x, H1, I1, r1, q1⟩ => chain_link (thn (hb pins s1 σ H1 _ I1 q1) fun u s2 ⟨y, H2, I2, r2, q2⟩ =>
    thn (ho pins s2 σ H2 x y v u _ I2 r1 r2 q2) fun d s3 ⟨z, H3, I3, r3, k, e, q3⟩ => ?_)) hm
  subst e
  cases r3
  refine wpAny_truthy_bool ?_
  cases k with
  | false => exact ite_ff ⟨.bl false, H3, I3, rfl, q3⟩
  | true => exact ite_tt (chain_last (thn (hc pins s3 σ H3 _ I3 q3) fun w' s4 ⟨z', H4, I4, r4, q4⟩ => ho' pins s4 σ H4 y z' u w' Q I4 r2 r4 q4))
theorem pt_chain {op op' : CmpOp} {r r' : R2} (ho : OpR X (compareOp op) r) (ho' : OpR X (compareOp op') r') (ha : PE X a ta) (hb : PE X b tb) (hc : PE X c tc)
    (hm : lastMarks [op, op'] [b, c] = false := by with_unfolding_all rfl) : PT X (.Compare a [op, op'] [b, c] pos) (tTest (tChain r r' ta tb tc)) := by
  intro pins s σ H Q I h
  refine isTrue_chain (thn (ha pins s σ H _ I h) fun v s1 ⟨x, H1, I1, r1, q1⟩ => test_link (thn (hb pins s1 σ H1 _ I1 q1) fun u s2 ⟨y, H2, I2, r2, q2⟩ =>
    thn (ho pins s2 σ H2 x y v u _ I2 r1 r2 q2) fun d s3 ⟨z, H3, I3, r3, k, e, q3⟩ => ?_)) hm
  subst e
  cases r3
  refine wpAny_truthy_bool ?_
  cases k with
  | false =>
    obtain ⟨k', e', q'⟩ := q3
    cases e'
    exact ite_ff ⟨H3, I3, q'⟩
  | true =>
    refine ite_tt (test_last (thn (hc pins s3 σ H3 _ I3 q3) fun w' s4 ⟨z', H4, I4, r4, q4⟩ => thn (ho' pins s4 σ H4 y z' u w' _ I4 r2 r4 q4) fun d' s5 ⟨z2, H5, I5, r5, k2, e2, q5⟩ => ?_))
    subst e2
    cases r5
    exact wpAny_truthy_bool ⟨H5, I5, q5⟩
noncomputable def TruV (K : PySem.W.Frag) (x : V) (H : Hp) (k : Bool) : Prop :=
  match x with
  | .non => k = false
  | .bl b => k = b
  | .int i => k = (i != 0)
  | .str y => y.length ≤ sizeLine ∧ k = ((y.length : Int) != 0)
  | .byt y => y.size ≤ sizeLine ∧ k = ((y.size : Int) != 0)
  | .ref p => (∃ xs, SqL K H p xs ∧ k = !xs.isEmpty) ∨ (∃ xs, SqT K H p xs ∧ k = !xs.isEmpty) ∨ ∃ kvs, H p = some (.dK kvs) ∧ k = !kvs.isEmpty
  | _ => False
theorem isEmpty_kv {κ : Type} {kvs : List (κ × V)} {vs : List (κ × Value)} (r : KV kvs vs) : (!vs.isEmpty) = !kvs.isEmpty := by
  cases r <;> rfl
theorem isEmpty_of {xs : List V} {its : List Value} (r : Vals xs its) : (!its.toArray.isEmpty) = !xs.isEmpty := by
  cases r <;> simp
theorem line63 : (sizeLine : Nat) < 2 ^ 63 := by rw [sizeLine_eq]; decide
theorem tru_ok : TruR X (fun x H Q => ∃ k, TruV X.K x H k ∧ Q k H) := by
  intro pins s σ H x v Q I rx h
  obtain ⟨k, e, q⟩ := h
  have hl := line63
  have hs : sizeLine = 16777216 := sizeLine_eq
  cases x with
  | non =>
    cases rx
    have e' : k = false := e
    subst e'
    exact truthy_none ⟨H, I, q⟩
  | bl b =>
    cases rx
    have e' : k = b := e
    subst e'
    exact wpAny_truthy_bool ⟨H, I, q⟩
  | int i =>
    obtain ⟨t, rfl⟩ := rx
    have e' : k = (i != 0) := e
    subst e'
    exact PySem.P.truthy_int ⟨H, I, q⟩
  | str y =>
    obtain ⟨t, rfl⟩ := rx
    obtain ⟨hy, e'⟩ : y.length ≤ sizeLine ∧ k = ((y.length : Int) != 0) := e
    subst e'
    exact PySem.P.truthy_str (by omega) ⟨H, I.tok _, q⟩
  | byt y =>
    obtain ⟨t, rfl⟩ := rx
    obtain ⟨hy, e'⟩ : y.size ≤ sizeLine ∧ k = ((y.size : Int) != 0) := e
    subst e'
    exact PySem.W.truthy_bytes (by omega) ⟨H, I.tok _, q⟩
  | ref p =>
    cases rx
    have e' : (∃ xs, SqL X.K H p xs ∧ k = !xs.isEmpty) ∨ (∃ xs, SqT X.K H p xs ∧ k = !xs.isEmpty) ∨ ∃ kvs, H p = some (.dK kvs) ∧ k = !kvs.isEmpty := e
    rcases e' with ⟨xs, hx, e'⟩ | ⟨xs, hx, e'⟩ | ⟨kvs, hx, e'⟩
    · subst e'
      obtain ⟨its, r, pl, hz⟩ := I.list hx
      have hlen := r.length
      exact wpAny_truthy_list pl.isList (by simp only [List.size_toArray]; omega) ⟨H, I.tok _, by rw [isEmpty_of r]; exact q⟩
    · subst e'
      obtain ⟨its, r, pl, hz⟩ := I.tuple hx
      have hlen := r.length
      exact truthy_tuple pl (by simp only [List.size_toArray]; omega) ⟨H, I.tok _, by rw [isEmpty_of r]; exact q⟩
    · subst e'
      obtain ⟨hz, hS, vs, r, m⟩ : kvs.length ≤ sizeLine ∧ (p == sysModules) = false ∧ ∃ vs, KV kvs vs ∧ s.heap.DictOf (mixKind X.prog X.w) p vs := I.hok p _ hx
      have hlen : kvs.length = vs.length := Paired.length r
      exact wpAny_truthy_dict hS m (by omega) ⟨H, I.tok _, by rw [isEmpty_kv r]; exact q⟩
  | _ => exact (show False from e).elim
theorem pt_truth (ha : PE X a ta) (he : ∀ whole, isTrue a X.env whole = (do let v ← whole; standAt a.pos; holding [v] (truthy v))) :
    PT X a (fun σ H Q => ta σ H fun x H' => ∃ k, TruV X.K x H' k ∧ Q k H') := by
  intro pins s σ H Q I h
  exact isTrue_plain (thn (ha pins s σ H _ I h) fun v s1 ⟨x, H1, I1, r1, q1⟩ => tru_ok pins s1 σ H1 x v Q I1 r1 q1) (he _)
theorem op_add_str : OpR X (binaryOp .Add) (fun x y H Q => ∃ i j, x = .str i ∧ y = .str j ∧ i.length + j.length ≤ sizeLine ∧ Q (.str (i ++ j)) H) := by
  intro pins s σ H x y v u Q I rx ry h
  obtain ⟨i, j, rfl, rfl, hz, q⟩ := h
  obtain ⟨t, rfl⟩ := rx
  obtain ⟨t', rfl⟩ := ry
  exact add_str (fun t' tk => ⟨.str (i ++ j), H, I.tok _, ⟨_, rfl⟩, q⟩) hz
theorem vals1 {x : V} {us : List Value} (r : Vals [x] us) : ∃ u, us = [u] ∧ RelV x u := by
  cases r with
  | cons r1 r2 => cases r2; exact ⟨_, rfl, r1⟩
theorem vals2 {x y : V} {us : List Value} (r : Vals [x, y] us) : ∃ u w', us = [u, w'] ∧ RelV x u ∧ RelV y w' := by
  cases r with
  | cons r1 r2 =>
    cases r2 with
    | cons r3 r4 => cases r4; exact ⟨_, _, rfl, r1, r3⟩
theorem call_int1 : CallR X (.type "int") (fun xs H Q => (∃ i, xs = [.int i] ∧ Q (.int i) H) ∨ ∃ k, xs = [.bl k] ∧ Q (.int (if k then 1 else 0)) H) := by
  intro pins s σ H xs us Q I r h
  rcases h with ⟨i, rfl, q⟩ | ⟨k, rfl, q⟩
  · obtain ⟨u, rfl, t, rfl⟩ := vals1 r
    exact call_int_int ⟨.int i, H, I, ⟨_, rfl⟩, q⟩
  · obtain ⟨u, rfl, r1⟩ := vals1 r
    cases r1
    exact call_int_bool ⟨.int (if k then 1 else 0), H, I.tok _, ⟨_, rfl⟩, q⟩
end
end L2
namespace L2
open PySem PySem.Spec PyProof.Rows
structure ObjM (h : Heap) (x dx C : Addr) (mA : Str → Option Value) : Prop where
  obj : h.get? x = some (PySem.W.instObj C dx)
  ns : h.Ns1 dx mA
  ne : dx ≠ x
theorem lookIn_ns {h : Heap} {dx : Addr} {mA : Str → Option Value} (n : h.Ns1 dx mA) : ∃ od, h.get? dx = some od ∧ ∀ name, PySem.W.lookIn name od = some (mA name) := by
  obtain ⟨o, es, ep, ho, hd, hk, _, hm⟩ := n
  refine ⟨o, ho, fun name => ?_⟩
  have e := hm name
  unfold nsFind findBy at e
  rw [← Array.find?_toList] at e
  unfold PySem.W.lookIn
  rw [hd]
  dsimp only
  split
  · rename_i y q
    rw [q] at e
    exact congrArg some e
  · rename_i q
    rw [q] at e
    have a : es.toList.any (·.refKey) = false := by
      rw [List.any_eq_false]
      intro y hy
      obtain ⟨z, t, hkey⟩ := hk y (Array.mem_toList_iff.mp hy)
      simp [DictEntry.refKey, hkey]
    have a' : ¬ es.toList.any (·.refKey) = true := by rw [a]; exact Bool.false_ne_true
    rw [if_neg a']
    exact congrArg some e
theorem ObjM.look {h : Heap} {x dx C : Addr} {mA : Str → Option Value} (I : ObjM h x dx C mA) : ∃ od, PySem.W.InstAt h x (PySem.W.instObj C dx) C (some od) ∧ ∀ name, PySem.W.lookIn name od = some (mA name) :=
  let ⟨od, ho, hl⟩ := lookIn_ns I.ns
  ⟨od, ⟨I.obj, rfl, rfl, ho⟩, hl⟩
section
variable {prog : Program} {w : World} {A : Around} {E : Value → Shared → Prop} {s : Shared} {K : PySem.W.Frag} {x dx C f : Addr} {mA : Str → Option Value} {name : Str} {v : Value}
end
theorem RelO.some_of {v : V} {o : Option Value} (r : RelO (some v) o) : ∃ u, o = some u ∧ RelV v u := by
  cases o with
  | none => exact (show False from r).elim
  | some u => exact ⟨u, rfl, r⟩
section
variable {P : Program} {w : World} {H H' : Hp} {h h' : Heap} {a C dx : Addr} {fs fs' : List (Str × V)}
end
structure Cls (K : PySem.W.Frag) (C : Addr) : Prop where
  pg : PySem.W.plainGet K C Str.empty = true
  hd : PySem.W.hasDictIn K C = true
  po : PySem.W.plainOver K C = true
  sa : PySem.W.findIn K (.ref C) "__setattr__" = some (some (.builtin "object.__setattr__"))
theorem Cls.get {K : PySem.W.Frag} {C : Addr} (c : Cls K C) (f : Str) : PySem.W.plainGet K C f = true := c.pg
section
variable {X : Cx} {pins : List (Addr × Obj)} {σ : St} {H : Hp} {s : Shared} {a C dx : Addr} {fs : List (Str × V)} {f : Str} {v : V} {A : Around} {E : Value → Shared → Prop}
end
section
variable {X : Cx} {o e value : Expr} {f : Str} {pos pos' tpos : Pos} {ta tv : TE}
end
section
variable {X : Cx} {pins : List (Addr × Obj)} {σ : St} {H : Hp} {s : Shared} {A : Around} {E : Value → Shared → Prop} {Q : Value → Shared → Prop} {c : Value} {b : Bool}
end
end L2
namespace L2
open PySem PySem.Spec PyProof.Rows
structure Room (k : Nat) (A : Around) : Prop where
  hd : A.handled = none
  dp : A.depth + 3 * k + 5 < recursionLimit
  un : A.units + 16 * k + 200 < cLine
theorem Room.deeper {k : Nat} {A : Around} (r : Room (k + 1) A) (env : Env) : Room k (A.deeper env) :=
  ⟨r.hd, by have := r.dp; show A.depth + 1 + 3 * k + 5 < _; omega, by have := r.un; show A.units + 3 + 16 * k + 200 < _; omega⟩
theorem Room.in1 {k : Nat} {A : Around} (r : Room (k + 1) A) : Room k A.in1 :=
  ⟨r.hd, by have := r.dp; show A.depth + 3 * k + 5 < _; omega, by have := r.un; show A.units + 1 + 16 * k + 200 < _; omega⟩
theorem Room.depth {k : Nat} {A : Around} (r : Room k A) : A.depth < recursionLimit := by have := r.dp; omega
theorem Room.units {k : Nat} {A : Around} (r : Room k A) : A.units + 64 < cLine := by have := r.un; omega
noncomputable def tNil : TA := fun _ H Q => Q [] H
noncomputable def tCons (ta : TE) (tr : TA) : TA := fun σ H Q => ta σ H fun x H1 => tr σ H1 fun xs H2 => Q (x :: xs) H2
section
variable {X : Cx} {e : Expr} {es : List Expr} {te : TE} {t : TA} {pos : Pos}
theorem pa_nil : PA X [] tNil := fun _ _ _ _ H Q I h => Calls.spliced_nil ⟨[], H, I, .nil, h⟩
theorem pa_cons (ha : PE X e te) (hr : PA X es t) (hs : starEach (e :: es) X.env = (false, eval e X.env) :: starEach es X.env := by rfl) : PA X (e :: es) (tCons te t) := by
  intro pos pins s σ H Q I h
  rw [hs]
  show wpAny _ _ (spliced ((false, eval e X.env) :: backTo pos (starEach es X.env))) _ _ s
  refine Calls.spliced_cons (thn (ha pins s σ H _ I h) fun u s1 ⟨x, H1, I1, r1, q1⟩ => ?_)
  exact thn (hr pos pins s1 σ H1 _ I1 q1) fun us s2 ⟨xs, H2, I2, r2, q2⟩ => ⟨x :: xs, H2, I2, .cons r1 r2, q2⟩
noncomputable def tTup (t : TA) : TE := fun σ H Q => t σ H fun xs H1 => xs.length ≤ sizeLine ∧ ∀ p, H1 p = none → Q (.ref p) (upd H1 p (.tup xs))
noncomputable def tLst (t : TA) : TE := fun σ H Q => t σ H fun xs H1 => xs.length ≤ sizeLine ∧ ∀ p, H1 p = none → Q (.ref p) (upd H1 p (.lst xs))
theorem pe_tup {x1} (h : PA X es t) : PE X (.Tuple es x1 pos) (tTup t) := by
  intro pins s σ H Q I hq
  refine wpAny_Tuple_spliced (thn (h pos pins s σ H _ I hq) fun us s1 ⟨xs, H1, I1, r, z, q⟩ => ⟨by rw [← r.length]; exact z, ?_⟩)
  have hf : H1 s1.heap.objs.size = none := I1.hok.fresh (Nat.le_refl _)
  refine ⟨.ref s1.heap.objs.size, upd H1 s1.heap.objs.size (.tup xs), I1.laid (t' := s1.toks) (fun b u e => Heap.get?_push_of_some _ e) (Nat.le_refl _) ?_, rfl, q _ hf⟩
  exact ⟨z, us, r, ⟨_, Heap.get?_push_size _ rfl, rfl, _, rfl⟩⟩
theorem pe_lst (h : PA X es t) : PE X (.List es pos) (tLst t) := by
  intro pins s σ H Q I hq
  refine wpAny_List_spliced (thn (h pos pins s σ H _ I hq) fun us s1 ⟨xs, H1, I1, r, z, q⟩ => ⟨by rw [← r.length]; exact z, ?_⟩)
  have hf : H1 s1.heap.objs.size = none := I1.hok.fresh (Nat.le_refl _)
  refine ⟨.ref s1.heap.objs.size, upd H1 s1.heap.objs.size (.lst xs), I1.laid (t' := s1.toks) (fun b u e => Heap.get?_push_of_some _ e) (Nat.le_refl _) ?_, rfl, q _ hf⟩
  exact ⟨z, us, 0, r, Heap.get?_push_size _ rfl⟩
end
noncomputable abbrev Sp := List V → Hp → VK → XK → Prop
noncomputable abbrev CXT := List Env → Hp → Shared → XK → Value → Shared → Prop
structure Env0 (P : Program) (w : World) (K : PySem.W.Frag) (mg : Str → Option Value) (base : Heap) (A : Around) (outer : List Env) (s : Shared) (H : Hp) : Prop where
  frames : A.frames = some outer
  mod : Mod K mg base
  bs : ∀ b o, base.get? b = some o → s.heap.get? b = some o ∧ H b = none
  bsz : base.objs.size ≤ s.heap.objs.size
  funs : s.heap.FunFrames base outer
  frf : ∀ b ∈ frs outer, H b = none
  hok : HOk P w H s.heap
  bare : AllBare s.gens
noncomputable def CE (outer : List Env) (P : Program) (w : World) (H : Hp) (s : Shared) (Q : VK) (u : Value) (s' : Shared) : Prop :=
  ∃ v H', s'.os = s.os ∧ AllBare s'.gens ∧ Un (frs outer) [] H H' s.heap s'.heap ∧ HOk P w H' s'.heap ∧ RelV v u ∧ Q v H'
noncomputable def CR (CX : CXT) (outer : List Env) (P : Program) (w : World) (H : Hp) (s : Shared) (Q : VK) (E : XK) (r : Result) (s' : Shared) : Prop :=
  match r with
  | .ok (.ret u) => CE outer P w H s Q u s'
  | .ok _ => False
  | .error e => CX outer H s E e s'
structure FnOk (P : Program) (w : World) (K : PySem.W.Frag) (mg : Str → Option Value) (base : Heap) (CX : CXT) (k : Nat) (f : Addr) (fd : FuncData) (ps : List Str) (sp : Sp) : Prop where
  len : ∀ vs H Q E, sp vs H Q E → vs.length = ps.length
  run : ∀ (A : Around) (outer : List Env) (s : Shared) (H : Hp) (args : Args) (us : List Value) (vs : List V) (Q : VK) (E : XK), Room k A → Env0 P w K mg base A outer s H → BindsTo s fd args (ps.zip us) → Vals vs us → sp vs H Q E →
    codeAny (model P w) A (.call (.ref f) args) (CR CX outer P w H s Q E) s
theorem FnOk.imp {P : Program} {w : World} {K : PySem.W.Frag} {mg : Str → Option Value} {base : Heap} {CX : CXT} {k : Nat} {f : Addr} {fd : FuncData} {ps : List Str} {sp sp' : Sp} (F : FnOk P w K mg base CX k f fd ps sp)
    (h : ∀ vs H Q E, sp' vs H Q E → sp vs H Q E) : FnOk P w K mg base CX k f fd ps sp' :=
  ⟨fun vs H Q E q => F.len vs H Q E (h _ _ _ _ q), fun A outer s H args us vs Q E hr he hb hv hs => F.run A outer s H args us vs Q E hr he hb hv (h _ _ _ _ hs)⟩
theorem Env0.in1 {P : Program} {w : World} {K : PySem.W.Frag} {mg : Str → Option Value} {base : Heap} {A : Around} {outer : List Env} {s : Shared} {H : Hp} (e : Env0 P w K mg base A outer s H) :
    Env0 P w K mg base A.in1 outer s H := ⟨e.frames, e.mod, e.bs, e.bsz, e.funs, e.frf, e.hok, e.bare⟩
section
variable {X : Cx} {pins : List (Addr × Obj)} {σ : St} {H : Hp} {s s' : Shared}
theorem Inv.env0 (I : Inv X pins σ H s) : Env0 X.prog X.w X.K X.mg X.base X.A X.stack s H :=
  ⟨I.ok.frames, I.ok.mod, I.bs, Nat.le_trans I.ok.bsz I.sz, I.stack, I.stkFree, I.hok, I.bare⟩
theorem Inv.after {Q : VK} {u : Value} (I : Inv X pins σ H s) (h : CE X.stack X.prog X.w H s Q u s') : EP X pins σ Q u s' := by
  obtain ⟨v, H', os, bare, un, hok, r, q⟩ := h
  obtain ⟨hh, g, d, t, os'⟩ := s'
  obtain rfl : os' = s.os := os
  exact ⟨v, H', I.call (h' := hh) (g' := g) (d' := d) (t' := t) (ch := []) un hok bare (fun b z => absurd z (by simp)), r, q⟩
end
noncomputable def tCall (sp : Sp) (dvs : List V) (E : XK) (t : TA) : TE := fun σ H Q => t σ H fun vs H1 => sp (vs ++ dvs) H1 Q E
noncomputable def Binds (K : PySem.W.Frag) (fd : FuncData) (ps : List Str) (ds : List Value) : Prop :=
  ∀ (s : Shared) (us : List Value), K.In s.heap → (us ++ ds).length = ps.length → BindsTo s fd ⟨us, []⟩ (ps.zip (us ++ ds))
theorem Binds.all {K : PySem.W.Frag} {fd : FuncData} {ps : List Str} (h : ∀ us : List Value, us.length = ps.length → bindArgs fd ⟨us, []⟩ = pure (ps.zip us)) : Binds K fd ps [] := fun s us _ hl => by
  rw [List.append_nil] at hl ⊢
  exact .of_eq (h us hl)
noncomputable def Passes (CX : CXT) (X : Cx) (E : XK) : Prop := ∀ (pins : List (Addr × Obj)) (σ : St) (H : Hp) (s : Shared) (e : Value) (s' : Shared), Inv X pins σ H s → CX X.stack H s E e s' → X.xe e s'
section
variable {X : Cx} {CX : CXT} {k : Nat} {f C : Addr} {fd : FuncData} {ps : List Str} {sp : Sp} {dvs : List V} {ds : List Value} {E : XK} {x m : Str} {p pos apos : Pos} {e o : Expr} {es : List Expr} {ta : TE} {t : TA}
theorem run_fn {pins : List (Addr × Obj)} {σ : St} {H : Hp} {s : Shared} {Q : VK} {us : List Value} {vs : List V} (F : FnOk X.prog X.w X.K X.mg X.base CX k f fd ps sp) (hr : Room k X.A) (hb : Binds X.K fd ps ds) (hd : Vals dvs ds) (hx : Passes CX X E)
    (I : Inv X pins σ H s) (r : Vals vs us) (h : sp (vs ++ dvs) H Q E) : wpAny (model X.prog X.w) X.A (call (.ref f) us) (EP X pins σ Q) X.xe s := by
  have r2 : Vals (vs ++ dvs) (us ++ ds) := r.append hd
  have hl : (us ++ ds).length = ps.length := by rw [← r2.length]; exact F.len _ _ _ _ h
  refine wpAny_call (codeAny_mono (F.run X.A X.stack s H ⟨us, []⟩ (us ++ ds) (vs ++ dvs) Q E hr I.env0 (hb s us I.kIn hl) r2 h) fun r s' hq => ?_)
  cases r with
  | error e => exact hx pins σ H s e s' I hq
  | ok fl =>
    cases fl with
    | ret u => exact I.after hq
    | next => exact False.elim hq
    | brk => exact False.elim hq
    | cont => exact False.elim hq
theorem pe_call (F : FnOk X.prog X.w X.K X.mg X.base CX k f fd ps sp) (hr : Room k X.A) (hg : Gl X x) (hm : X.mg x = some (.ref f)) (hk : PySem.W.keepIn X.K (.ref f) = true) (hb : Binds X.K fd ps ds) (hd : Vals dvs ds) (hx : Passes CX X E)
    (ha : PA X (e :: es) t) (hdb : (x == ("__debug__" : Str)) = false := by decide) (he : starEach (e :: es) X.env = (false, eval e X.env) :: starEach es X.env := by rfl) (hpl : (backTo pos (starEach es X.env)).any (·.1) = false := by rfl) :
    PE X (.Call (.Name x p) (e :: es) [] pos) (tCall sp dvs E t) := by
  intro pins s σ H Q I h
  refine wpAny_Call_Name_kw (ld_glob I hg hm ?_ hdb)
  refine PySem.W.callWith_K (h₀ := X.base) I.ok.mod.kin hk (thn (ha pos pins s σ H _ I h) fun us s1 ⟨vs, H1, I1, r, q⟩ => ⟨I1.kIn, ?_⟩) he hpl
  exact run_fn F hr hb hd hx I1 r q
end
section
variable {X : Cx} {CX : CXT} {k : Nat} {f C : Addr} {fd : FuncData} {ps ks : List Str} {sp : Sp} {E : XK} {x m : Str} {p pos apos kpos : Pos} {e o : Expr} {es : List Expr} {kws : List Keyword} {te ta : TE} {t tk : TA} {nm : Option Str}
variable {g : List Value → List Value → List Value} {gV : List V → List V → List V}
end
structure FnScope (N P : List Str) (sc : Scope) : Prop where
  kind : sc.kind = .function
  co : sc.isCoroutine = false
  gen : sc.isGenerator = false
  nd : N.Nodup
  pre : N.take P.length = P
  par : ∀ x ∈ P, sc.names.lookup x = some .local ∨ sc.names.lookup x = some .cell
  nofree : ∀ y ∈ sc.names, y.2 ≠ .free
theorem bindL_out {kindOf : Str → Option NameKind} {x : Str} : ∀ {binds : List (Str × Value)} {m : Str → Option Value}, (∀ v, (x, v) ∉ binds) → bindL kindOf binds m x = m x
  | [], _, _ => rfl
  | (n, v) :: r, m, h => by
    unfold bindL
    rw [bindL_out fun w hw => h w (List.mem_cons_of_mem _ hw)]
    split
    · have : x ≠ n := by rintro rfl; exact h v List.mem_cons_self
      simp [this]
    · rfl
theorem bindC_out {kindOf : Str → Option NameKind} {x : Str} : ∀ {binds : List (Str × Value)} {m : Str → Option Value}, (∀ v, (x, v) ∉ binds) → bindC kindOf binds m x = m x
  | [], _, _ => rfl
  | (n, v) :: r, m, h => by
    unfold bindC
    rw [bindC_out fun w hw => h w (List.mem_cons_of_mem _ hw)]
    split
    · rfl
    · have : x ≠ n := by rintro rfl; exact h v List.mem_cons_self
      simp [this]
theorem bindL_get {kindOf : Str → Option NameKind} {x : Str} {v : Value} : ∀ {P : List Str} {vs : List Value} {i : Nat} {m : Str → Option Value}, P.Nodup → P[i]? = some x → vs[i]? = some v → kindOf x = some .local →
    bindL kindOf (P.zip vs) m x = some v
  | [], _, _, _, _, h, _, _ => by simp at h
  | _ :: _, [], _, _, _, _, h, _ => by simp at h
  | p :: P, w :: vs, 0, m, nd, h1, h2, hk => by
    simp at h1 h2; subst h1; subst h2
    show bindL kindOf ((p, w) :: P.zip vs) m p = _
    unfold bindL
    rw [bindL_out fun v hv => (List.nodup_cons.mp nd).1 (List.of_mem_zip hv).1, if_pos hk]
    simp
  | p :: P, w :: vs, i + 1, m, nd, h1, h2, hk => by
    show bindL kindOf ((p, w) :: P.zip vs) m x = _
    unfold bindL
    exact bindL_get (i := i) (List.nodup_cons.mp nd).2 (by simpa using h1) (by simpa using h2) hk
theorem bindC_get {kindOf : Str → Option NameKind} {x : Str} {v : Value} : ∀ {P : List Str} {vs : List Value} {i : Nat} {m : Str → Option Value}, P.Nodup → P[i]? = some x → vs[i]? = some v → kindOf x ≠ some .local →
    bindC kindOf (P.zip vs) m x = some v
  | [], _, _, _, _, h, _, _ => by simp at h
  | _ :: _, [], _, _, _, _, h, _ => by simp at h
  | p :: P, w :: vs, 0, m, nd, h1, h2, hk => by
    simp at h1 h2; subst h1; subst h2
    show bindC kindOf ((p, w) :: P.zip vs) m p = _
    unfold bindC
    rw [bindC_out fun v hv => (List.nodup_cons.mp nd).1 (List.of_mem_zip hv).1, if_neg hk]
    simp
  | p :: P, w :: vs, i + 1, m, nd, h1, h2, hk => by
    show bindC kindOf ((p, w) :: P.zip vs) m x = _
    unfold bindC
    exact bindC_get (i := i) (List.nodup_cons.mp nd).2 (by simpa using h1) (by simpa using h2) hk
noncomputable def start (N : List Str) (vs : List V) : St := vs.map some ++ List.replicate (N.length - vs.length) none
noncomputable def cxOf (CX : CXT) (P : Program) (w : World) (K : PySem.W.Frag) (mg : Str → Option Value) (base : Heap) (N : List Str) (qual : Str) (scope : Scope) (f : Addr) (cd : Value) (A : Around) (outer : List Env) (s : Shared) (H : Hp) (E : XK) : Cx where
  prog := P
  w := w
  K := K
  mg := mg
  base := base
  A := A.deeper (envOfC qual scope s.heap.objs.size f cd)
  N := N
  s₀ := s
  H₀ := H
  env := envOfC qual scope s.heap.objs.size f cd
  outer := outer
  stack := envOfC qual scope s.heap.objs.size f cd :: outer
  ex := []
  calm := true
  fn := fun _ => true
  pn := []
  xe := fun e s' => wpAny (model P w) (A.deeper (envOfC qual scope s.heap.objs.size f cd)) (leaving (envOfC qual scope s.heap.objs.size f cd) e) (fun _ s'' => CX outer H s E e s'') (fun e' s'' => CX outer H s E e' s'') s'
theorem cell_has {sc : Scope} {n : Nat} {x : Str} (h : sc.names.lookup x = some .cell) : ∃ c, (cellsFrom n sc.names []).lookup x = some c := by
  have q := PySem.W.cellsFrom_some sc.names n [] (.inl h)
  exact Option.isSome_iff_exists.mp q
theorem inv_start {CX : CXT} {P : Program} {w : World} {K : PySem.W.Frag} {mg : Str → Option Value} {base : Heap} {N ps : List Str} {qual : Str} {scope : Scope} {f : Addr} {cd : Value} {A : Around} {outer : List Env} {s s1 : Shared} {H : Hp} {E : XK} {us : List Value} {vs : List V}
    (S : FnScope N ps scope) (hd : A.handled = none) (e0 : Env0 P w K mg base A outer s H) (hl : vs.length = ps.length) (r : Vals vs us)
    (x : InCallC s s.heap.objs.size (bindL (envOfC qual scope s.heap.objs.size f cd).kindOf (ps.zip us) fun _ => none) (cellsFrom (s.heap.objs.size + 1) scope.names []) (bindC (envOfC qual scope s.heap.objs.size f cd).kindOf (ps.zip us) fun _ => none) s1) :
    Inv (cxOf CX P w K mg base N qual scope f cd A outer s H E) [] (start N vs) H s1 := by
  have hpl : ps.length ≤ N.length := by have := congrArg List.length S.pre; rw [List.length_take] at this; omega
  obtain ⟨h1, tk, rfl, hk⟩ := x.done
  have noA : ∀ b : Addr, b ∉ (cxOf CX P w K mg base N qual scope f cd A outer s H E).ex := fun b z => absurd (show b ∈ ([] : List Addr) from z) (by simp)
  refine ⟨⟨e0.mod, S.kind, rfl, rfl, Nat.le_refl _, fun y z c h1 h2 => ?_, fun y hy => ?_, fun y c _ h => ?_, fun _ => hd, Around.frames_deeper e0.frames, .inr ⟨rfl, rfl⟩, fun b z => absurd z (noA b), e0.bs, e0.bsz, fun b _ _ => noA b, fun b z => absurd z (noA b), e0.funs, e0.frf⟩,
    rfl, e0.bare, Un.kept hk, ⟨_, x.toInCall.ns, fun i y v h1 h2 h3 => ?_⟩, fun y c h => ⟨_, x.cell y c h⟩, e0.hok.fresh (Nat.le_refl _), fun y c h => ?_, fun p hp => absurd (show p ∈ ([] : List (Addr × Obj)) from hp) (by simp), e0.hok.kept hk, ?_⟩
  · exact name_of_addr x.apart (PySem.mem_of_lookup h1) (PySem.mem_of_lookup h2)
  · have hy : scope.names.lookup y = some .cell ∨ scope.names.lookup y = some .free := hy
    rcases hy with hy | hy
    · exact cell_has hy
    · exact absurd rfl (S.nofree _ (PySem.mem_of_lookup hy))
  · exact Nat.le_of_lt (x.above y c (PySem.mem_of_lookup h))
  · have hi : i < vs.length := by
      unfold start at h2
      by_cases hi : i < vs.length
      · exact hi
      · rw [List.getElem?_append_right (by simpa using hi)] at h2
        rw [List.getElem?_replicate] at h2
        split at h2 <;> cases h2
    have ha : vs[i]? = some v := by
      unfold start at h2
      rw [List.getElem?_append_left (by simpa using hi), List.getElem?_map] at h2
      cases e : vs[i]? with
      | none => rw [e] at h2; cases h2
      | some a => rw [e] at h2; cases h2; rfl
    obtain ⟨u, hu, rv⟩ := r.get ha
    have hp : ps[i]? = some y := by
      rw [← S.pre, List.getElem?_take_of_lt (by omega)]; exact h1
    have ndP : ps.Nodup := by rw [← S.pre]; exact S.nd.sublist (List.take_sublist _ _)
    refine ⟨u, rv, ?_⟩
    rcases S.par y (List.mem_of_getElem? hp) with k | k
    · exact .inl ⟨k, bindL_get ndP hp hu k⟩
    · obtain ⟨c, e⟩ := cell_has (n := s.heap.objs.size + 1) k
      refine .inr ⟨.inl k, c, e, ?_⟩
      have q := x.cell y c e
      rw [bindC_get ndP hp hu (by show scope.names.lookup y ≠ _; rw [k]; decide)] at q
      exact q
  · exact e0.hok.fresh (Nat.le_of_lt (x.above y c (PySem.mem_of_lookup h)))
  · unfold start
    show _ = N.length
    rw [List.length_append, List.length_map, List.length_replicate]
    omega
theorem fn_of {CX : CXT} {P : Program} {w : World} {K : PySem.W.Frag} {mg : Str → Option Value} {base : Heap} {k : Nat} {f : Addr} {name qual : Str} {params : Arguments} {body : List Stmt} {scope : Scope} {dV kV doc pm cdv ct oc : Value} {an od : Option Addr}
    {osl : Array (Option Value)} {N ps : List Str} {sp : Sp} (lk : K.lookup f = some ⟨oc, od, .func (PySem.W.fnOf name qual params body scope dV kV doc pm an cdv ct), osl⟩) (hcd : PySem.W.codeIn K cdv qual = true) (S : FnScope N ps scope)
    (len : ∀ vs H Q E, sp vs H Q E → vs.length = ps.length)
    (hbody : ∀ (A : Around) (outer : List Env) (s : Shared) (H : Hp) (vs : List V) (Q : VK) (E : XK), Room k (A.deeper (envOfC qual scope s.heap.objs.size f cdv)) → sp vs H Q E →
      ∃ t, PSs (cxOf CX P w K mg base N qual scope f cdv A outer s H E) body t ∧ t { nx := fun _ H' => Q .non H', rt := Q } (start N vs) H) :
    FnOk P w K mg base CX (k + 1) f (PySem.W.fnOf name qual params body scope dV kV doc pm an cdv ct) ps sp := by
  refine ⟨len, fun A outer s H args us vs Q E hr e0 hb r hsp => ?_⟩
  have hl := len _ _ _ _ hsp
  have KX : K.In s.heap := e0.mod.kin.keeps fun b o e => (e0.bs b o e).1
  have lim : s.heap.NoLimit := e0.mod.nolimit.keeps fun b o e => (e0.bs b o e).1
  have hkind : ∀ y ∈ ps.zip us, scope.names.lookup y.1 = some .local ∨ (scope.names.lookup y.1 = some .cell ∧ ((cellsFrom (s.heap.objs.size + 1) scope.names []).lookup y.1).isSome = true) := fun ⟨n, v⟩ hy => by
    rcases S.par n (List.of_mem_zip hy).1 with q | q
    · exact .inl q
    · exact .inr ⟨q, PySem.W.cellsFrom_some _ _ _ (.inl q)⟩
  refine codeAny_call_function hr.depth (KX _ _ lk) rfl S.co S.gen rfl (PySem.W.codeRec_of KX hcd) (hb _ _ _ _ ?_)
  refine wpAny_newFunctionEnv_cells S.kind hkind fun env he s1 x => ?_
  subst he
  refine ⟨lim.keeps x.toInCall.keep, codeAny_func ?_⟩
  obtain ⟨t, ht, hq⟩ := hbody A outer s H vs Q E (hr.deeper _) hsp
  have I : Inv (cxOf CX P w K mg base N qual scope f cdv A outer s H E) [] (start N vs) H s1 := inv_start S hr.hd e0 hl r x
  refine wpAny_mono (ht [] s1 (start N vs) H _ I hq) (fun fl s' hs => ?_) fun e s' hs => hs
  have fin : ∀ {σ' : St} {H' : Hp} {v : V} {u : Value}, Inv (cxOf CX P w K mg base N qual scope f cdv A outer s H E) [] σ' H' s' → RelV v u → Q v H' → CE outer P w H s Q u s' :=
    fun {σ' H' v u} J rv q => ⟨v, H', J.os, J.bare, J.base, J.hok, rv, q⟩
  cases fl with
  | ret u =>
    obtain ⟨v, σ', H', J, rv, q⟩ := hs
    exact fin J rv q
  | next =>
    obtain ⟨σ', H', J, q⟩ := hs
    exact fin (v := V.non) (u := Value.none) J rfl q
  | brk =>
    obtain ⟨_, _, _, q⟩ := hs
    exact False.elim q
  | cont =>
    obtain ⟨_, _, _, q⟩ := hs
    exact False.elim q
end L2
namespace L2
open PySem PySem.Spec PyProof.Rows
section
variable {X : Cx} {x : Str} {p pos : Pos} {e : Expr} {es : List Expr} {t : TA} {id T : String} {r : List V → Hp → VK → Prop}
noncomputable def tCB (r : List V → Hp → VK → Prop) (t : TA) : TE := fun σ H Q => t σ H fun vs H1 => r vs H1 Q
theorem pe_callB (hc : CallR X (.builtin id) r) (hg : Gl X x) (hm : X.mg x = none) (hv : bootBuiltins x = some (.builtin id)) (ha : PA X (e :: es) t) (hn : x ≠ "__name__" := by decide) (hdb : (x == ("__debug__" : Str)) = false := by decide)
    (he : starEach (e :: es) X.env = (false, eval e X.env) :: starEach es X.env := by rfl) (hpl : (backTo pos (starEach es X.env)).any (·.1) = false := by rfl) : PE X (.Call (.Name x p) (e :: es) [] pos) (tCB r t) := by
  intro pins s σ H Q I h
  refine wpAny_Call_Name_kw (ld_blt I hg hm hv ?_ hn hdb)
  exact PyProof.Rows.callWith_builtin1 (thn (ha pos pins s σ H _ I h) fun us s1 ⟨vs, H1, I1, r1, q1⟩ => hc pins s1 σ H1 vs us Q I1 r1 q1) he hpl
theorem pe_callTy (hc : CallR X (.type T) r) (hg : Gl X x) (hm : X.mg x = none) (hv : bootBuiltins x = some (.type T)) (ha : PA X (e :: es) t) (hn : x ≠ "__name__" := by decide) (hdb : (x == ("__debug__" : Str)) = false := by decide)
    (he : starEach (e :: es) X.env = (false, eval e X.env) :: starEach es X.env := by rfl) (hpl : (backTo pos (starEach es X.env)).any (·.1) = false := by rfl) : PE X (.Call (.Name x p) (e :: es) [] pos) (tCB r t) := by
  intro pins s σ H Q I h
  refine wpAny_Call_Name_kw (ld_blt I hg hm hv ?_ hn hdb)
  exact PyProof.Rows.callWith_type1 (thn (ha pos pins s σ H _ I h) fun us s1 ⟨vs, H1, I1, r1, q1⟩ => hc pins s1 σ H1 vs us Q I1 r1 q1) he hpl
end
end L2
namespace HT
open PySem PyProof.Rows
noncomputable def lexLt : List Int → List Int → Bool
  | [], [] => false
  | [], _ :: _ => true
  | _ :: _, [] => false
  | x :: xs, y :: ys => if x = y then lexLt xs ys else decide (x < y)
theorem lexLt_cons (x y : Int) (xs ys : List Int) : lexLt (x :: xs) (y :: ys) = if x = y then lexLt xs ys else decide (x < y) := rfl
theorem lexLt_nil_nil : lexLt [] [] = false := rfl
theorem lexLt_nil_cons (y : Int) (ys : List Int) : lexLt [] (y :: ys) = true := rfl
theorem lexLt_cons_nil (x : Int) (xs : List Int) : lexLt (x :: xs) [] = false := rfl
theorem eqAt_int (A : Around) (s : Shared) (a : Int) (t : Tok) (c : Int) (u : Tok) : ∃ e, SeqAt.EqAt A s (.int a t) (.int c u) e ∧ (e = true ↔ a = c) :=
  ⟨(a == c), SeqAt.EqAt.int_int a t c u, by simp⟩
theorem rcLt_int (A : Around) (s : Shared) (a : Int) (t : Tok) (c : Int) (u : Tok) (prog : Program) (w : World) (E : Value → Shared → Prop) (Q : Value → Shared → Prop) (h : Q (.bool (decide (a < c))) s) :
    wpAny (model prog w) A (richCompare .Lt (.int a t) (.int c u)) Q E s :=
  (PyProof.Rows.lt_int h : wpAny (model prog w) A (compareOp .Lt (.int a t) (.int c u)) Q E s)
section
open PySem.SeqAt
open PySem.AutoSeq1 (wpAny_loadPart')
open PySem.MeetsSeq PySem.MeetsSeq2 PySem.MeetsSeq3
theorem tuple_lt_ints (l b : Addr) (items items2 : Array Value) (n n2 : Nat) (dd dd2 : Option Addr) (sl sl2 : Array (Option Value)) (ns ms : List Int) (hi : IntsAre items.toList ns) (hj : IntsAre items2.toList ms) :
    Meets (Builtin.«tuple.__lt__» ⟨[.ref l, .ref b], []⟩)
      (fun _ R s => s.heap.get? l = some { cls := .type "tuple", dict := dd, data := .seq items n, slots := sl } ∧ s.heap.get? b = some { cls := .type "tuple", dict := dd2, data := .seq items2 n2, slots := sl2 } ∧
        R (.ok (.ret (.bool (lexLt ns ms)))) s) :=
  .of_wp fun prog w A R s h => by
    obtain ⟨hp, g, d, tk, os⟩ := s; obtain ⟨hl, hb, h⟩ := h
    have f2 := AutoSeq1.sub_tuple_tuple
    have z1 : items.size = ns.length := by rw [← hi.length]; simp
    have z2 : items2.size = ms.length := by rw [← hj.length]; simp
    wp_walk using wpAny_loadPart' hl, wpAny_loadPart' hb, wpAny_forIn_list _ (fun rest b s' => b.1 = none ∧ s' = ⟨hp, g, d, tk, os⟩ ∧ ∃ (vs ws : List Value) (ns' ms' : List Int), rest = vs.zip ws ∧
      IntsAre vs ns' ∧ IntsAre ws ms' ∧ ns'.length + items2.size = ms'.length + items.size ∧ R (.ok (.ret (.bool (lexLt ns' ms')))) ⟨hp, g, d, tk, os⟩) _
    case turn =>
      rintro ⟨y, x⟩ rest b s' ⟨hb', rfl, vs, ws, ns', ms', hz, hvi, hwi, hlen, hR⟩
      cases hvi with
      | nil => rw [List.zip_nil_left] at hz; cases hz
      | cons a t hvi' =>
        cases hwi with
        | nil => rw [List.zip_nil_right] at hz; cases hz
        | cons c u hwi' =>
          rw [List.zip_cons_cons] at hz
          injection hz with hyx hrest
          injection hyx with hy hx
          subst hy hx
          rw [lexLt_cons] at hR
          simp only [List.length_cons] at hlen
          obtain ⟨e, he, hiff⟩ := eqAt_int A.in1 ⟨hp, g, d, tk, os⟩ a t c u
          refine wpAny_bind (he prog w _ _ ?_)
          cases e with
          | true =>
            rw [if_pos (hiff.mp rfl)] at hR
            wp_walk
            exact ⟨rfl, rfl, _, _, _, _, hrest, hvi', hwi', by omega, hR⟩
          | false =>
            rw [if_neg (fun q => absurd (hiff.mpr q) Bool.false_ne_true)] at hR
            have hri := rcLt_int A.in1 ⟨hp, g, d, tk, os⟩ a t c u prog w
            wp_walk using hri
            exact ⟨_, rfl, by simpa using hR⟩
    case fin =>
      rintro ⟨b1, b2⟩ s' ⟨hb', rfl, vs, ws, ns', ms', hz, hvi, hwi, hlen, hR⟩
      simp only at hb'
      subst hb'
      have hv : lexLt ns' ms' = decide (items.size < items2.size) := by
        cases hvi with
        | nil =>
          cases hwi with
          | nil =>
            simp only [List.length_nil] at hlen
            rw [lexLt_nil_nil]
            exact (decide_eq_false (by omega)).symm
          | cons c u hw =>
            simp only [List.length_nil, List.length_cons] at hlen
            rw [lexLt_nil_cons]
            exact (decide_eq_true (by omega)).symm
        | cons a t hv =>
          cases hwi with
          | nil =>
            simp only [List.length_nil, List.length_cons] at hlen
            rw [lexLt_cons_nil]
            exact (decide_eq_false (by omega)).symm
          | cons c u hw =>
            rw [List.zip_cons_cons] at hz
            cases hz
      rw [hv] at hR
      wp_walk
      exact ⟨_, rfl, by simpa [Builtin.Tuple.tupleCompareSizes] using hR⟩
    case h =>
      exact ⟨rfl, rfl, items.toList, items2.toList, ns, ms, rfl, hi, hj, by omega, h⟩
end
section
variable {prog : Program} {w : World} {A : Around} {E : Value → Shared → Prop} {s : Shared}
theorem lt_tupInts {l b : Addr} {items items2 : Array Value} {ns ms : List Int} {Q : Value → Shared → Prop} (hl : IsTup s.heap l items) (hb : IsTup s.heap b items2) (hi : IntsAre items.toList ns) (hj : IntsAre items2.toList ms)
    (hu : A.units < cLine) (h : Q (.bool (lexLt ns ms)) s) : wpAny (model prog w) A (compareOp .Lt (.ref l) (.ref b)) Q E s := by
  obtain ⟨⟨cls, dd, data, sl⟩, ho, hc, n, hd⟩ := id hl
  obtain ⟨⟨cls2, dd2, data2, sl2⟩, ho2, hc2, n2, hd2⟩ := id hb
  simp only at hc hd hc2 hd2
  subst hc hd hc2 hd2
  exact richCompare_meets_room (op := .Lt) ⟨_, ho, rfl⟩ ⟨_, ho2, rfl⟩ PySem.F.slot_tuple_lt PySem.F.entry_tuple_lt (PySem.F.args_tuple_lt_2 _ _) (tuple_lt_ints l b items items2 n n2 dd dd2 sl sl2 ns ms hi hj)
    ⟨ho, ho2, show Value.bool (lexLt ns ms) ≠ Value.notImplemented ∧ Q (.bool (lexLt ns ms)) s from ⟨(fun x => nomatch x), h⟩⟩ hu
noncomputable def sIx (n d : Nat) : Option Int → Nat
  | none => d
  | some v => if v < 0 then (v + (n : Int)).toNat else min v.toNat n
theorem sIx_none (n d : Nat) : sIx n d none = d := rfl
theorem sIx_nat (n d k : Nat) : sIx n d (some (k : Int)) = min k n := by
  show (if (k : Int) < 0 then ((k : Int) + (n : Int)).toNat else min (k : Int).toNat n) = min k n
  rw [if_neg (by omega), Int.toNat_natCast]
end
end HT
namespace L2
open PySem PySem.Spec PyProof.Rows
noncomputable abbrev TO := St → Hp → (Option Int → Hp → Prop) → Prop
noncomputable def PO (X : Cx) (e : Option Expr) (t : TO) : Prop :=
  ∀ (pins : List (Addr × Obj)) (s : Shared) (σ : St) (H : Hp) (Q : Option Int → Hp → Prop), Inv X pins σ H s → t σ H Q →
    wpAny (model X.prog X.w) X.A (evalPart e X.env) (fun u s' => ∃ o H', Inv X pins σ H' s' ∧ IsPart u o ∧ Q o H') X.xe s
noncomputable def tNoPart : TO := fun _ H Q => Q none H
noncomputable def tPart (t : TE) : TO := fun σ H Q => t σ H fun x H1 => ∃ i, x = .int i ∧ Q (some i) H1
theorem intsAre_of {ns : List Int} : ∀ {us : List Value}, Vals (ns.map V.int) us → IntsAre us ns := by
  induction ns with
  | nil => intro us r; rw [List.map_nil] at r; cases r; exact .nil
  | cons n ns ih =>
    intro us r
    rw [List.map_cons] at r
    cases r with
    | cons r1 r2 =>
      obtain ⟨t, e⟩ := r1
      subst e
      exact .cons n t (ih r2)
section
variable {X : Cx} {e : Expr} {te : TE} {lo hi : Option Expr} {tl th : TO} {pos p2 : Pos}
theorem po_none : PO X none tNoPart := by
  intro pins s σ H Q I h
  rw [evalPart_none]
  exact wpAny_pure ⟨none, H, I, .none, h⟩
theorem po_some (h : PE X e te) : PO X (some e) (tPart te) := by
  intro pins s σ H Q I hw
  rw [evalPart_some]
  refine thn (h pins s σ H _ I hw) fun u s1 ⟨x, H1, I1, r1, q1⟩ => ?_
  obtain ⟨i, rfl, q⟩ := q1
  obtain ⟨t, rfl⟩ := r1
  exact ⟨some i, H1, I1, .int i t, q⟩
noncomputable def SlR (X : Cx) (r : V → Option Int → Option Int → Hp → VK → Prop) : Prop :=
  ∀ (pins : List (Addr × Obj)) (s : Shared) (σ : St) (H : Hp) (x : V) (v vl vu : Value) (lo hi : Option Int) (sl : Addr) (Q : VK), Inv X pins σ H s → RelV x v → s.heap.IsSliceOf sl vl vu .none → IsPart vl lo → IsPart vu hi → r x lo hi H Q →
    ∃ T id, typeLookup (.type T) "__getitem__" = pure (some (.builtin id)) ∧ s.TypeIs v T ∧ wpAny (model X.prog X.w) X.A (getItem v (.ref sl)) (EP X pins σ Q) X.xe s
theorem SlR.or {r r' : V → Option Int → Option Int → Hp → VK → Prop} (h : SlR X r) (h' : SlR X r') : SlR X (fun x lo hi H Q => r x lo hi H Q ∨ r' x lo hi H Q) := by
  intro pins s σ H x v vl vu lo hi sl Q I rx hs pl pu q
  rcases q with q | q
  · exact h pins s σ H x v vl vu lo hi sl Q I rx hs pl pu q
  · exact h' pins s σ H x v vl vu lo hi sl Q I rx hs pl pu q
noncomputable def tSl (r : V → Option Int → Option Int → Hp → VK → Prop) (te : TE) (tl th : TO) : TE := fun σ H Q => te σ H fun x H1 => tl σ H1 fun l H2 => th σ H2 fun u H3 => r x l u H3 Q
theorem pe_slice {r : V → Option Int → Option Int → Hp → VK → Prop} (hr : SlR X r) (he : PE X e te) (hl : PO X lo tl) (hu : PO X hi th) : PE X (.Subscript e (.Slice lo hi none p2) pos) (tSl r te tl th) := by
  intro pins s σ H Q I h
  refine Subscript_ (thn (he pins s σ H _ I h) fun v s1 ⟨x, H1, I1, r1, q1⟩ => ?_)
  refine wpAny_Slice (thn (hl pins s1 σ H1 _ I1 q1) fun vl s2 ⟨l, H2, I2, pl, q2⟩ => thn (hu pins s2 σ H2 _ I2 q2) fun vu s3 ⟨u, H3, I3, pu, q3⟩ => ?_)
  rw [evalPart_none]
  refine wpAny_pure ?_
  have I4 : Inv X pins σ H3 { s3 with heap := s3.heap.push { cls := .type "slice", data := .fields #[vl, vu, .none] } } := I3.kept (t' := s3.toks) fun b ob q => Heap.get?_push_of_some _ q
  obtain ⟨T, id, hT, ht, hg⟩ := hr pins { s3 with heap := s3.heap.push { cls := .type "slice", data := .fields #[vl, vu, .none] } } σ H3 x v vl vu l u s3.heap.objs.size Q I4 r1 (Heap.IsSliceOf.new ..) pl pu q3
  show wpAny (model X.prog X.w) X.A (subscriptTail e (.Slice lo hi none p2) v (.ref s3.heap.objs.size)) (EP X pins σ Q) X.xe { s3 with heap := s3.heap.push { cls := .type "slice", data := .fields #[vl, vu, .none] } }
  exact tail_any (ops := [.ref s3.heap.objs.size, v]) ht hT hg (by with_unfolding_all rfl)
noncomputable def cutV (xs : List V) (lo hi : Option Int) : List V := (xs.drop (HT.sIx xs.length 0 lo)).take (HT.sIx xs.length xs.length hi - HT.sIx xs.length 0 lo)
theorem cutV_length (xs : List V) (lo hi : Option Int) : (cutV xs lo hi).length ≤ xs.length := by
  unfold cutV
  rw [List.length_take, List.length_drop]
  omega
noncomputable def rLtT (K : PySem.W.Frag) : R2 := fun x y H Q => ∃ a b ns ms, x = .ref a ∧ y = .ref b ∧ SqT K H a (ns.map V.int) ∧ SqT K H b (ms.map V.int) ∧ Q (.bl (HT.lexLt ns ms)) H
theorem op_ltT (hu : X.A.units < cLine) : OpR X (compareOp .Lt) (rLtT X.K) := by
  intro pins s σ H x y v u Q I rx ry h
  obtain ⟨a, b, ns, ms, rfl, rfl, ha, hb, q⟩ := h
  cases rx
  cases ry
  obtain ⟨its, r1, p1, _⟩ := I.tuple ha
  obtain ⟨its2, r2, p2, _⟩ := I.tuple hb
  have i1 : IntsAre its.toArray.toList ns := intsAre_of r1
  have i2 : IntsAre its2.toArray.toList ms := intsAre_of r2
  exact HT.lt_tupInts p1 p2 i1 i2 hu ⟨.bl (HT.lexLt ns ms), H, I, rfl, q⟩
end
end L2
namespace L2
open PySem PySem.Spec PyProof.Rows
noncomputable def ixN (n : Nat) (i : Int) : Option Nat := if 0 ≤ i then (if i < n then some i.toNat else none) else if -(n : Int) ≤ i then some (i + n).toNat else none
noncomputable def atI {α : Type} (xs : List α) (i : Int) : Option α := (ixN xs.length i).bind fun j => xs[j]?
theorem ixN_seq {n : Nat} {i : Int} {j : Nat} (h : ixN n i = some j) : seqIndex? i n = some j ∧ j < n ∧ -(n : Int) ≤ i ∧ i < n := by
  unfold ixN at h
  by_cases h0 : 0 ≤ i
  · rw [if_pos h0] at h
    by_cases h1 : i < n
    · rw [if_pos h1] at h
      have e : i.toNat = j := Option.some.inj h
      exact ⟨by rw [seqIndex_of h0 h1, e], by omega, by omega, h1⟩
    · rw [if_neg h1] at h; cases h
  · rw [if_neg h0] at h
    by_cases h1 : -(n : Int) ≤ i
    · rw [if_pos h1] at h
      have e : (i + n).toNat = j := Option.some.inj h
      exact ⟨by rw [seqIndex_neg (by omega) h1, e], by omega, h1, by omega⟩
    · rw [if_neg h1] at h; cases h
theorem atI_get {α : Type} {xs : List α} {i : Int} {v : α} (h : atI xs i = some v) : ∃ j, seqIndex? i xs.length = some j ∧ xs[j]? = some v ∧ j < xs.length ∧ -(xs.length : Int) ≤ i ∧ i < xs.length := by
  unfold atI at h
  cases e : ixN xs.length i with
  | none => rw [e] at h; cases h
  | some j =>
    rw [e] at h
    obtain ⟨h1, h2, h3, h4⟩ := ixN_seq e
    exact ⟨j, h1, h, h2, h3, h4⟩
theorem atI_nat {α : Type} {xs : List α} {j : Nat} {v : α} (h : xs[j]? = some v) : atI xs (j : Int) = some v := by
  have hj : j < xs.length := (List.getElem?_eq_some_iff.mp h).1
  have e : ixN xs.length (j : Int) = some j := by
    unfold ixN
    rw [if_pos (by omega), if_pos (by omega)]; simp
  unfold atI; rw [e]; exact h
noncomputable def PlainIx (b : Expr) : Prop := ∀ o i, subscripted b false o i = operate [o, i] (getItem o i)
noncomputable def IxR (X : Cx) (r : R2) : Prop :=
  ∀ (value slice : Expr) (pins : List (Addr × Obj)) (s : Shared) (σ : St) (H : Hp) (x y : V) (v u : Value) (Q : VK), Inv X pins σ H s → RelV x v → RelV y u → r x y H Q →
    subscripted slice false v u = operate [v, u] (getItem v u) → wpAny (model X.prog X.w) X.A (subscriptTail value slice v u) (EP X pins σ Q) X.xe s
noncomputable def MtR (X : Cx) (id : String) (r : V → List V → Hp → VK → Prop) : Prop :=
  ∀ (pins : List (Addr × Obj)) (s : Shared) (σ : St) (H : Hp) (x : V) (xs : List V) (v : Value) (us : List Value) (Q : VK), Inv X pins σ H s → RelV x v → Vals xs us → r x xs H Q →
    wpAny (model X.prog X.w) X.A (call (.builtin id) (v :: us)) (EP X pins σ Q) X.xe s
section
variable {X : Cx} {a b : Expr} {ta tb : TE} {pos : Pos}
theorem IxR.or {r r' : R2} (h : IxR X r) (h' : IxR X r') : IxR X (fun x y H Q => r x y H Q ∨ r' x y H Q) := by
  intro value slice pins s σ H x y v u Q I rx ry q hs
  rcases q with q | q
  · exact h value slice pins s σ H x y v u Q I rx ry q hs
  · exact h' value slice pins s σ H x y v u Q I rx ry q hs
theorem MtR.or {id : String} {r r' : V → List V → Hp → VK → Prop} (h : MtR X id r) (h' : MtR X id r') : MtR X id (fun x xs H Q => r x xs H Q ∨ r' x xs H Q) := by
  intro pins s σ H x xs v us Q I rx rs q
  rcases q with q | q
  · exact h pins s σ H x xs v us Q I rx rs q
  · exact h' pins s σ H x xs v us Q I rx rs q
theorem pe_ix {r : R2} (hr : IxR X r) (ha : PE X a ta) (hb : PE X b tb) (hs : PlainIx b) : PE X (.Subscript a b pos) (tOp r ta tb) := by
  intro pins s σ H Q I h
  exact Subscript_ (binT ha hb I h fun v u s2 x y H2 I2 rx ry q => hr a b pins s2 σ H2 x y v u Q I2 rx ry q (hs _ _))
noncomputable def rIxL (K : PySem.W.Frag) : R2 := fun x y H Q => ∃ p xs i v, x = .ref p ∧ y = .int i ∧ SqL K H p xs ∧ atI xs i = some v ∧ Q v H
noncomputable def rIxT (K : PySem.W.Frag) : R2 := fun x y H Q => ∃ p xs i v, x = .ref p ∧ y = .int i ∧ SqT K H p xs ∧ atI xs i = some v ∧ Q v H
theorem ix_list : IxR X (rIxL X.K) := by
  intro value slice pins s σ H x y v u Q I rx ry h hs
  obtain ⟨p, xs, i, z, rfl, rfl, hq, he, q⟩ := h
  cases rx
  obtain ⟨t, rfl⟩ := ry
  obtain ⟨its, r, pl, hz⟩ := I.list hq
  obtain ⟨j, h1, h2, h3, h4, h5⟩ := atI_get he
  obtain ⟨w, ew, rw'⟩ := r.get h2
  have hl := r.length
  have hn := line63
  have fin : EP X pins σ Q w s := ⟨z, H, I, rw', q⟩
  by_cases h0 : 0 ≤ i
  · have hj : i.toNat = j := by
      rw [seqIndex_of h0 h5] at h1
      exact Option.some.inj h1
    exact item_listR pl.isList h0 (by omega) (by rw [hj]; simpa using ew) fin hs
  · have hj : (i + (its.toArray.size : Int)).toNat = j := by
      rw [seqIndex_neg (by omega) h4] at h1
      rw [List.size_toArray, ← hl]
      exact Option.some.inj h1
    exact subscriptTail_builtinR (x := w) pl.isList.typeIs slot_list_getitem.lookup
      (wpAny_getItem_list_neg (Q := fun r s' => r = w ∧ EP X pins σ Q r s') pl.isList (by omega) (by rw [List.size_toArray] <;> omega) (by omega) (by rw [hj]; simpa using ew) ⟨rfl, fin⟩) hs
theorem ix_tup : IxR X (rIxT X.K) := by
  intro value slice pins s σ H x y v u Q I rx ry h hs
  obtain ⟨p, xs, i, z, rfl, rfl, hq, he, q⟩ := h
  cases rx
  obtain ⟨t, rfl⟩ := ry
  obtain ⟨its, r, pl, hz⟩ := I.tuple hq
  obtain ⟨j, h1, h2, h3, h4, h5⟩ := atI_get he
  obtain ⟨w, ew, rw'⟩ := r.get h2
  have hl := r.length
  have hn := line63
  have fin : EP X pins σ Q w s := ⟨z, H, I, rw', q⟩
  exact subscriptTail_builtinR (x := w) pl.typeIs slot_tuple_getitem.lookup
    (getItem_tuple (j := j) (Q := fun r s' => r = w ∧ EP X pins σ Q r s') pl (by omega) (by omega) (by rw [List.size_toArray, ← hl]; exact h1) (by simpa using ew) ⟨rfl, fin⟩) hs
theorem Inv.lst {pins : List (Addr × Obj)} {σ : St} {H : Hp} {s : Shared} {p : Addr} {xs : List V} (I : Inv X pins σ H s) (h : H p = some (.lst xs)) :
    ∃ (its : List Value) (n : Nat), Vals xs its ∧ s.heap.get? p = some { cls := .type "list", data := .seq its.toArray n } ∧ xs.length ≤ sizeLine := by
  obtain ⟨z, its, n, r, e⟩ := I.hok p _ h
  exact ⟨its, n, r, e, z⟩
theorem slice_bounds (lo hi : Option Int) (n : Nat) : (sliceBounds lo hi none n).1 = ((HT.sIx n 0 lo : Nat) : Int) ∧ (sliceBounds lo hi none n).2.1 = ((HT.sIx n n hi : Nat) : Int) ∧ (sliceBounds lo hi none n).2.2 = 1 := by
  refine ⟨?_, ?_, rfl⟩
  · cases lo with
    | none => simp [sliceBounds, HT.sIx]
    | some i =>
      simp only [sliceBounds, HT.sIx, Option.getD_none, show (1 : Int) > 0 by decide, if_true]
      by_cases h : i < 0
      · simp only [h, if_true] <;> omega
      · simp only [h, if_false] <;> omega
  · cases hi with
    | none => simp [sliceBounds, HT.sIx]
    | some i =>
      simp only [sliceBounds, HT.sIx, Option.getD_none, show (1 : Int) > 0 by decide, if_true]
      by_cases h : i < 0
      · simp only [h, if_true] <;> omega
      · simp only [h, if_false] <;> omega
theorem slicePick_cut (its : List Value) (lo hi : Option Int) : slicePick its.toArray lo hi none = ((its.drop (HT.sIx its.length 0 lo)).take (HT.sIx its.length its.length hi - HT.sIx its.length 0 lo)).toArray := by
  obtain ⟨h1, h2, h3⟩ := slice_bounds lo hi its.toArray.size
  unfold slicePick
  rw [h1, h2, h3]
  simp only [sliceRange_one, pick_run, List.size_toArray] <;> rfl
noncomputable def rSlL (K : PySem.W.Frag) : V → Option Int → Option Int → Hp → VK → Prop := fun x lo hi H Q => ∃ a xs, x = .ref a ∧ SqL K H a xs ∧ ∀ p, H p = none → Q (.ref p) (upd H p (.lst (cutV xs lo hi)))
theorem sl_list : SlR X (rSlL X.K) := by
  intro pins s σ H x v vl vu lo hi sl Q I rx hs pl pu h
  obtain ⟨a, xs, rfl, hx, q⟩ := h
  cases rx
  obtain ⟨its, r, ht, hz⟩ := I.list hx
  have hlen := r.length
  refine ⟨"list", _, slot_list_getitem.lookup, ht.isList.typeIs, ?_⟩
  refine wpAny_getItem_list_slice ht.isList hs pl pu .none (by simp) ?_ (by rw [List.size_toArray] <;> omega)
  rw [slicePick_cut, ← hlen]
  refine ⟨.ref s.heap.objs.size, _, I.laid (t' := s.toks) (o := .lst (cutV xs lo hi)) (fun b ob q => Heap.get?_push_of_some _ q) (Nat.le_refl _) ?_, rfl, q _ (I.hok.fresh (Nat.le_refl _))⟩
  exact ⟨Nat.le_trans (cutV_length xs lo hi) hz, _, 0, (r.drop (HT.sIx xs.length 0 lo)).take (HT.sIx xs.length xs.length hi - HT.sIx xs.length 0 lo), Heap.get?_push_size _ rfl⟩
theorem call_len_seq : CallR X (.builtin "len") (fun xs H Q => ∃ p ys, xs = [.ref p] ∧ (SqL X.K H p ys ∨ SqT X.K H p ys) ∧ Q (.int ys.length) H) := by
  intro pins s σ H xs us Q I r h
  obtain ⟨p, ys, rfl, hq, q⟩ := h
  obtain ⟨u, rfl, rx⟩ := vals1 r
  cases rx
  have hn := line63
  rcases hq with hq | hq
  · obtain ⟨its, r', pl, hz⟩ := I.list hq
    have hlen := r'.length
    exact Calls.call_len_list pl.isList (by simp only [List.size_toArray] <;> omega) ⟨.int ys.length, H, I.tok _, ⟨s.toks + 1, by rw [List.size_toArray, hlen]⟩, q⟩
  · obtain ⟨its, r', pl, hz⟩ := I.tuple hq
    have hlen := r'.length
    exact len_tuple pl (by simp only [List.size_toArray] <;> omega) ⟨.int ys.length, H, I.tok _, ⟨s.toks + 1, by rw [List.size_toArray, hlen]⟩, q⟩
theorem CallR.or {f : Value} {r r' : List V → Hp → VK → Prop} (h : CallR X f r) (h' : CallR X f r') : CallR X f (fun xs H Q => r xs H Q ∨ r' xs H Q) := by
  intro pins s σ H xs us Q I rs q
  rcases q with q | q
  · exact h pins s σ H xs us Q I rs q
  · exact h' pins s σ H xs us Q I rs q
theorem call_tuple_of : CallR X (.type "tuple") (fun xs H Q => ∃ p ys, xs = [.ref p] ∧ ((SqL X.K H p ys ∧ ∀ l, H l = none → Q (.ref l) (upd H l (.tup ys))) ∨ (SqT X.K H p ys ∧ Q (.ref p) H))) := by
  intro pins s σ H xs us Q I r h
  obtain ⟨p, ys, rfl, h⟩ := h
  obtain ⟨u, rfl, rx⟩ := vals1 r
  cases rx
  rcases h with ⟨hq, q⟩ | ⟨hq, q⟩
  · obtain ⟨its, r', pl, hz⟩ := I.list hq
    have hlen := r'.length
    refine call_tuple_list pl.isList (fun h' kp => ?_) (by simp only [List.size_toArray] <;> omega)
    have I1 : Inv X pins σ H { s with heap := h' } := I.kept (t' := s.toks) kp
    have I2 : Inv X pins σ (upd H h'.objs.size (.tup ys)) { s with heap := h'.push { cls := .type "tuple", data := .seq its.toArray } } :=
      I1.laid (t' := s.toks) (fun b o e => Heap.get?_push_of_some _ e) (Nat.le_refl _) (show ObjOk X.prog X.w _ _ _ (.tup ys) from ⟨hz, its, r', IsTup.new _ _⟩)
    exact ⟨.ref h'.objs.size, _, I2, rfl, q _ (I1.hok.fresh (Nat.le_refl _))⟩
  · obtain ⟨its, r', pl, hz⟩ := I.tuple hq
    exact call_tuple_same pl ⟨.ref p, H, I, rfl, q⟩
noncomputable def tyV (K : PySem.W.Frag) (T : String) (x : V) (H : Hp) : Prop := match x with
  | .str _ => T = "str"
  | .int _ => T = "int"
  | .ref p => (T = "list" ∧ ∃ xs, SqL K H p xs) ∨ (T = "tuple" ∧ ∃ o, K.lookup p = some o ∧ o.cls = .type "tuple" ∧ o.dict = none) ∨
      (T = "dict" ∧ ((∃ kvs, H p = some (.dK kvs)) ∨ ∃ kvs, H p = some (.dT kvs))) ∨ (T = "set" ∧ ∃ S n, H p = some (.set S n))
  | _ => False
theorem tyV_is {pins : List (Addr × Obj)} {σ : St} {H : Hp} {s : Shared} {T : String} {x : V} {v : Value} (I : Inv X pins σ H s) (r : RelV x v) (ty : tyV X.K T x H) :
    s.TypeIs v T ∧ ∀ a, v = .ref a → ∃ ob, s.heap.get? a = some ob ∧ ob.dict = none := by
  cases x with
  | str z =>
    obtain ⟨t, rfl⟩ := r
    cases (show T = "str" from ty)
    exact ⟨typeIs_str s z t, fun _ e => nomatch e⟩
  | int i =>
    obtain ⟨t, rfl⟩ := r
    cases (show T = "int" from ty)
    exact ⟨typeIs_int s i t, fun _ e => nomatch e⟩
  | ref p =>
    cases r
    rcases ty with ⟨rfl, xs, hq⟩ | ⟨rfl, o, hk, hc, hd⟩ | ⟨rfl, hk⟩ | ⟨rfl, S, n, hk⟩
    · obtain ⟨its, _, pl, _⟩ := I.list hq
      refine ⟨pl.isList.typeIs, fun a e => ?_⟩
      cases e
      obtain ⟨o, n, e, c, hd, _⟩ := pl
      exact ⟨o, e, hd⟩
    · refine ⟨⟨o, I.kIn p o hk, hc⟩, fun a e => ?_⟩
      cases e
      exact ⟨o, I.kIn _ o hk, hd⟩
    · have z : ∃ o, s.heap.get? p = some o ∧ o.ExactDict := by
        rcases hk with ⟨kvs, hk⟩ | ⟨kvs, hk⟩
        · obtain ⟨_, _, _, _, o, _, _, e, ex, _⟩ := I.hok p _ hk
          exact ⟨o, e, ex⟩
        · obtain ⟨_, _, _, _, o, _, _, e, ex, _⟩ := I.hok p _ hk
          exact ⟨o, e, ex⟩
      obtain ⟨o, e, ex⟩ := z
      refine ⟨⟨o, e, ex.1⟩, fun a e2 => ?_⟩
      cases e2
      exact ⟨o, e, ex.2.1⟩
    · obtain ⟨o, _, _, _, e, ex, _⟩ := I.hok p _ hk
      refine ⟨⟨o, e, ex.1⟩, fun a e2 => ?_⟩
      cases e2
      exact ⟨o, e, ex.2.1⟩
  | _ => exact False.elim ty
noncomputable def tBM (K : PySem.W.Frag) (T : String) (r : V → List V → Hp → VK → Prop) (to : TE) (t : TA) : TE := fun σ H Q => to σ H fun x H1 => tyV K T x H1 ∧ t σ H1 fun xs H2 => r x xs H2 Q
variable {o e : Expr} {es : List Expr} {to : TE} {t : TA} {name : Str} {apos cpos : Pos} {T id : String} {r : V → List V → Hp → VK → Prop}
theorem pe_bm (pa : PlainAttrs T) (slot : Slot T name id) (hty : typeOf (.builtin id) = pure (.type "method_descriptor")) (hm : MtR X id r) (ho : PE X o to) (ha : PA X (e :: es) t)
    (hbase : attributeBase o name X.env (eval o X.env) = eval o X.env := by rfl)
    (hfew : ((backTo cpos (starEach (e :: es) X.env)).all (fun x => !x.1) && (backToKw cpos (keywordEach [] X.env)).all (fun x => x.1.isSome)
      && decide ((e :: es).length + ([] : List Keyword).length + (if ([] : List Keyword).isEmpty then 0 else 1) < 30)) = true := by rfl)
    (hline : (apos.endLine == cpos.line) = true := by rfl) (hs : starEach (e :: es) X.env = (false, eval e X.env) :: starEach es X.env := by rfl) (hplain : (backTo cpos (starEach es X.env)).any (·.1) = false := by rfl) :
    PE X (.Call (.Attribute o name apos) (e :: es) [] cpos) (tBM X.K T r to t) := by
  intro pins s σ H Q I h
  refine wpAny_Call_method_late hbase hfew hline rfl (thn (ho pins s σ H _ I h) fun v s1 ⟨x, H1, I1, r1, ty, q1⟩ => ?_)
  obtain ⟨h1, h2⟩ := tyV_is I1 r1 ty
  refine ⟨T, id, pa, slot, hty, h1, h2, ?_⟩
  have hA := ha cpos pins s1 σ H1 _ I1 q1
  rw [hs] at hA ⊢
  refine Calls.callWith_builtin (by show (false || (backTo cpos (starEach es X.env)).any (·.1)) = false; rw [hplain] <;> rfl) (Calls.evalArgs_plain ?_)
  exact thn hA fun us s2 ⟨vs, H2, I2, r2, q2⟩ => hm pins s2 σ H2 x vs v us Q I2 r1 r2 q2
end
end L2
namespace L2
open PySem PySem.Spec PyProof.Rows
noncomputable def MtM (X : Cx) (id : String) (r : V → List V → Hp → VK → Prop) : Prop :=
  ∀ (pins : List (Addr × Obj)) (s : Shared) (σ : St) (H : Hp) (x : V) (xs : List V) (v : Value) (us : List Value) (Q : VK), Inv X pins σ H s → RelV x v → Vals xs us → r x xs H Q →
    wpAny (model X.prog X.w) X.A (call (.builtin id) (v :: us)) (EP X pins σ Q) X.xe s
theorem Vals.one : ∀ {x : V} {us : List Value}, Vals [x] us → ∃ u, us = [u] ∧ RelV x u
  | _, _, .cons r .nil => ⟨_, rfl, r⟩
theorem Vals.two : ∀ {x y : V} {us : List Value}, Vals [x, y] us → ∃ u v, us = [u, v] ∧ RelV x u ∧ RelV y v
  | _, _, _, .cons r (.cons q .nil) => ⟨_, _, rfl, r, q⟩
theorem Vals.zero : ∀ {us : List Value}, Vals [] us → us = []
  | _, .nil => rfl
theorem Vals.rep {xs : List V} {us : List Value} (h : Vals xs us) : ∀ k : Nat, Vals (List.replicate k xs).flatten (List.replicate k us).flatten
  | 0 => .nil
  | k + 1 => by
    rw [List.replicate_succ, List.replicate_succ, List.flatten_cons, List.flatten_cons]
    exact Vals.append h (Vals.rep h k)
section
variable {X : Cx} {pins : List (Addr × Obj)} {σ : St} {H : Hp} {s : Shared} {l b : Addr} {xs ys zs : List V}
theorem Inv.lset {its its' : List Value} {n : Nat} {f : Array Value → Array Value} {t' : Nat} (I : Inv X pins σ H s) (hH : H l = some (.lst xs))
    (e : s.heap.get? l = some { cls := .type "list", data := .seq its.toArray n }) (hf : f its.toArray = its'.toArray) (hv : Vals ys its') (hz : ys.length ≤ sizeLine) :
    Inv X pins σ (upd H l (.lst ys)) { s with heap := s.heap.update l (Obj.mapSeq f), toks := t' } := by
  have q := PySem.IsL.update e f
  rw [hf] at q
  refine I.write (x := l) (e := l) (by rw [hH]; exact trivial) (.inl rfl) (fun b' u hb hu => (Heap.get?_update_other s.heap (Obj.mapSeq f) (Ne.symm hb)).trans hu) ⟨_, q⟩ ?_
  exact ⟨hz, its', _, hv, q⟩
theorem Inv.lnew {its : List Value} {t' : Nat} (I : Inv X pins σ H s) (hv : Vals ys its) (hz : ys.length ≤ sizeLine) :
    Inv X pins σ (upd H s.heap.objs.size (.lst ys)) { s with heap := s.heap.push { cls := .type "list", data := .seq its.toArray }, toks := t' } :=
  I.laid (fun _ _ q => Heap.get?_push_of_some _ q) (Nat.le_refl _) ⟨hz, its, 0, hv, Heap.get?_push_size _ rfl⟩
theorem Inv.fresh (I : Inv X pins σ H s) : H s.heap.objs.size = none := I.hok.fresh (Nat.le_refl _)
theorem Inv.lstM (I : Inv X pins σ H s) (hH : H l = some (.lst xs)) : xs.length ≤ sizeLine ∧ ∃ (its : List Value) (n : Nat), Vals xs its ∧ xs.length = its.length ∧ s.heap.get? l = some { cls := .type "list", data := .seq its.toArray n } := by
  obtain ⟨z, its, n, r, e⟩ := I.hok l _ hH
  exact ⟨z, its, n, r, r.length, e⟩
end
section
variable {X : Cx}
noncomputable def rAppend : V → List V → Hp → VK → Prop := fun x vs H Q => ∃ l xs y, x = .ref l ∧ vs = [y] ∧ H l = some (.lst xs) ∧ xs.length < sizeLine ∧ Q .non (upd H l (.lst (xs ++ [y])))
theorem mt_append : MtM X "list.append" rAppend := by
  intro pins s σ H x vs v us Q I rx rv h
  obtain ⟨l, xs, y, rfl, rfl, hH, hz, q⟩ := h
  cases rx
  obtain ⟨u, rfl, ru⟩ := rv.one
  obtain ⟨z, its, n, r, hl, e⟩ := I.lstM hH
  refine call_meets F.slot_list_append ⟨_, e, rfl⟩ F.entry_list_append (F.args_list_append_2 _ _) (PySem.list_append l its.toArray n u (by rw [List.size_toArray]; omega)) ⟨e, ?_⟩
  refine ⟨.non, _, I.lset (its' := its ++ [u]) hH e (by simp) (r.append (.cons ru .nil)) ?_, rfl, q⟩
  rw [List.length_append, List.length_singleton]
  omega
end
section
variable {prog : Program} {w : World} {A : Around} {E : Value → Shared → Prop} {s : Shared}
end
section
variable {X : Cx}
end
end L2
namespace L2
open PySem PySem.Spec PyProof.Rows
section
variable {κ : Type} [DecidableEq κ]
noncomputable def valV (kvs : List (κ × V)) (k : κ) : Option V := (kvs.find? fun kv => decide (kv.1 = k)).map (·.2)
noncomputable def putK (kvs : List (κ × V)) (k : κ) (v : V) : List (κ × V) :=
  if (kvs.any fun kv => decide (kv.1 = k)) = true then kvs.map (fun kv => if kv.1 = k then (kv.1, v) else kv) else kvs ++ [(k, v)]
noncomputable def dropK (kvs : List (κ × V)) (k : κ) : List (κ × V) := kvs.filter fun kv => decide (kv.1 ≠ k)
theorem valV_pos {p : κ × V} {r : List (κ × V)} {k : κ} (e : p.1 = k) : valV (p :: r) k = some p.2 := by simp [valV, List.find?_cons, e]
theorem valV_neg {p : κ × V} {r : List (κ × V)} {k : κ} (e : ¬ p.1 = k) : valV (p :: r) k = valV r k := by simp [valV, List.find?_cons, e]
theorem valV_any (k : κ) : ∀ kvs : List (κ × V), (kvs.any fun kv => decide (kv.1 = k)) = (valV kvs k).isSome
  | [] => rfl
  | p :: r => by
    rw [List.any_cons]
    by_cases e : p.1 = k
    · simp only [valV_pos e, decide_eq_true e, Bool.true_or, Option.isSome_some]
    · rw [valV_neg e, decide_eq_false e, Bool.false_or]; exact valV_any k r
theorem RelO.isSome_eq {o : Option V} {u : Option Value} (r : RelO o u) : o.isSome = u.isSome := by
  cases o with
  | none => cases u with
    | none => rfl
    | some _ => exact (show False from r).elim
  | some _ => cases u with
    | none => exact (show False from r).elim
    | some _ => rfl
theorem RelO.getD {o : Option V} {u : Option Value} {d : V} {d' : Value} (r : RelO o u) (rd : RelV d d') : RelV (o.getD d) (u.getD d') := by
  cases o with
  | none => cases u with
    | none => exact rd
    | some _ => exact (show False from r).elim
  | some _ => cases u with
    | none => exact (show False from r).elim
    | some _ => exact r
theorem KV.val {kvs : List (κ × V)} {vs : List (κ × Value)} (r : KV kvs vs) (k : κ) : RelO (valV kvs k) (valueAt vs k) := by
  unfold KV at r
  induction r with
  | nil => exact True.intro
  | @cons p q ps qs h t ih =>
    obtain ⟨h1, h2⟩ := h
    by_cases e : p.1 = k
    · have e' : q.1 = k := h1.symm.trans e
      have b : valueAt (q :: qs) k = some q.2 := by simp [valueAt, List.find?_cons, e']
      rw [valV_pos e, b]; exact h2
    · have e' : ¬ q.1 = k := fun z => e (h1.trans z)
      have b : valueAt (q :: qs) k = valueAt qs k := by simp [valueAt, List.find?_cons, e']
      rw [valV_neg e, b]; exact ih
theorem KV.any {kvs : List (κ × V)} {vs : List (κ × Value)} (r : KV kvs vs) (k : κ) : (kvs.any fun kv => decide (kv.1 = k)) = vs.any fun kv => decide (kv.1 = k) := by
  unfold KV at r
  induction r with
  | nil => rfl
  | cons h t ih => rw [List.any_cons, List.any_cons, ih, h.1]
theorem KV.repl {kvs : List (κ × V)} {vs : List (κ × Value)} (r : KV kvs vs) (k : κ) {y : V} {u : Value} (ry : RelV y u) :
    KV (kvs.map fun kv => if kv.1 = k then (kv.1, y) else kv) (vs.map fun kv => if kv.1 = k then (kv.1, u) else kv) := by
  unfold KV at r ⊢
  induction r with
  | nil => exact .nil
  | @cons p q ps qs h t ih =>
    rw [List.map_cons, List.map_cons]
    refine .cons ?_ ih
    obtain ⟨h1, h2⟩ := h
    by_cases e : p.1 = k
    · rw [if_pos e, if_pos (h1.symm.trans e)]; exact ⟨h1, ry⟩
    · rw [if_neg e, if_neg (fun z => e (h1.trans z))]; exact ⟨h1, h2⟩
theorem KV.put {kvs : List (κ × V)} {vs : List (κ × Value)} (r : KV kvs vs) (k : κ) {y : V} {u : Value} (ry : RelV y u) : KV (putK kvs k y) (stored vs k u) := by
  unfold putK stored
  rw [r.any k]
  by_cases e : (vs.any fun kv => decide (kv.1 = k)) = true
  · rw [if_pos e, if_pos e]; exact r.repl k ry
  · rw [if_neg e, if_neg e]; exact Paired.snoc r ⟨rfl, ry⟩
theorem KV.drop {kvs : List (κ × V)} {vs : List (κ × Value)} (r : KV kvs vs) (k : κ) : KV (dropK kvs k) (without vs k) := by
  unfold KV at r ⊢
  unfold dropK without
  induction r with
  | nil => exact .nil
  | @cons p q ps qs h t ih =>
    obtain ⟨h1, h2⟩ := h
    rw [List.filter_cons, List.filter_cons]
    by_cases e : p.1 = k
    · have a : ¬ decide (p.1 ≠ k) = true := by simp [e]
      have b : ¬ decide (q.1 ≠ k) = true := by simp [h1.symm.trans e]
      rw [if_neg a, if_neg b]; exact ih
    · have e' : ¬ q.1 = k := fun z => e (h1.trans z)
      have a : decide (p.1 ≠ k) = true := by simp [e]
      have b : decide (q.1 ≠ k) = true := by simp [e']
      rw [if_pos a, if_pos b]; exact .cons ⟨h1, h2⟩ ih
theorem KV.keys {kvs : List (κ × V)} {vs : List (κ × Value)} (r : KV kvs vs) : kvs.map (·.1) = vs.map (·.1) := by
  unfold KV at r
  induction r with
  | nil => rfl
  | cons h t ih => rw [List.map_cons, List.map_cons, ih, h.1]
theorem KV.length {kvs : List (κ × V)} {vs : List (κ × Value)} (r : KV kvs vs) : kvs.length = vs.length := Paired.length r
end
theorem kV_is {P : Program} {w : World} {k : Key} {u : Value} (r : RelV (kV k) u) : (mixKind P w).is k u = true := by
  cases k with
  | inl i => obtain ⟨t, e⟩ := (show ∃ t, u = Value.int i t from r); subst e; exact mixKind_int P w i t
  | inr x => obtain ⟨t, e⟩ := (show ∃ t, u = Value.str x t from r); subst e; exact mixKind_str P w x t
theorem items_are {P : Program} {w : World} : ∀ {ks : List Key} {us : List Value}, Vals (ks.map kV) us → ItemsAre (mixKind P w) ks us
  | [], _, r => by rw [List.map_nil] at r; cases r; exact .nil
  | k :: ks, _, r => by
    rw [List.map_cons] at r
    cases r with
    | cons h t => exact .cons (kV_is h) (items_are t)
noncomputable abbrev KT (H : Hp) : List (List Key × V) → List (List Key × Addr × Value) → Prop := Paired fun p q => p.1 = q.1 ∧ H q.2.1 = some (.tup (p.1.map kV)) ∧ RelV p.2 q.2.2
theorem KT.val {H : Hp} {kvs : List (List Key × V)} {xs : List (List Key × Addr × Value)} (r : KT H kvs xs) (k : List Key) : RelO (valV kvs k) ((atKey xs k).map (·.2)) := by
  induction r with
  | nil => exact True.intro
  | @cons p q ps qs h t ih =>
    obtain ⟨h1, _, h2⟩ := h
    by_cases e : p.1 = k
    · have e' : q.1 = k := h1.symm.trans e
      have b : atKey (q :: qs) k = some q.2 := by simp [atKey, List.find?_cons, e']
      rw [valV_pos e, b]; exact h2
    · have e' : ¬ q.1 = k := fun z => e (h1.trans z)
      have b : atKey (q :: qs) k = atKey qs k := by simp [atKey, List.find?_cons, e']
      rw [valV_neg e, b]; exact ih
theorem KT.repl {H : Hp} {kvs : List (List Key × V)} {xs : List (List Key × Addr × Value)} (r : KT H kvs xs) (k : List Key) {y : V} {u : Value} (ry : RelV y u) :
    KT H (kvs.map fun kv => if kv.1 = k then (kv.1, y) else kv) (xs.map (putAt k u)) := by
  induction r with
  | nil => exact .nil
  | @cons p q ps qs h t ih =>
    rw [List.map_cons, List.map_cons]
    refine .cons ?_ ih
    obtain ⟨h1, h2, h3⟩ := h
    unfold putAt
    by_cases e : p.1 = k
    · rw [if_pos e, if_pos (h1.symm.trans e)]; exact ⟨h1, h2, ry⟩
    · rw [if_neg e, if_neg (fun z => e (h1.trans z))]; exact ⟨h1, h2, h3⟩
theorem KT.put {H : Hp} {kvs : List (List Key × V)} {xs : List (List Key × Addr × Value)} (r : KT H kvs xs) (k : List Key) {b : Addr} {y : V} {u : Value} (hb : H b = some (.tup (k.map kV))) (ry : RelV y u) :
    KT H (putK kvs k y) (storedH xs k b u) := by
  have e : (kvs.any fun kv => decide (kv.1 = k)) = (atKey xs k).isSome := by
    rw [valV_any, (r.val k).isSome_eq, Option.isSome_map]
  unfold putK storedH
  rw [e]
  by_cases q : (atKey xs k).isSome = true
  · rw [if_pos q, if_pos q]; exact r.repl k ry
  · rw [if_neg q, if_neg q]; exact Paired.snoc r ⟨rfl, hb, ry⟩
theorem KT.keeps {H H' : Hp} {kvs : List (List Key × V)} {xs : List (List Key × Addr × Value)} (r : KT H kvs xs) (ht : ∀ b ys, H b = some (.tup ys) → H' b = some (.tup ys)) : KT H' kvs xs :=
  Paired.mapP r fun _ _ z => ⟨z.1, ht _ _ z.2.1, z.2.2⟩
section
variable {P : Program} {w : World} {H : Hp} {h : Heap} {a : Addr}
theorem rd_of {u : HO} (ok : HOk P w H h) (e : Rd H a u) : ObjOk P w H h a u := e.ok ok
theorem dk_rd {kvs : List (Key × V)} (ok : HOk P w H h) (e : Rd H a (.dK kvs)) : kvs.length ≤ sizeLine ∧ (a == sysModules) = false ∧ ∃ vs, KV kvs vs ∧ h.DictOf (mixKind P w) a vs :=
  show ObjOk P w H h a (.dK kvs) from rd_of ok e
theorem key_of {ks : List Key} (ok : HOk P w H h) (e : H a = some (.tup (ks.map kV))) : (tupleKind (mixKind P w)).is h ks a := by
  obtain ⟨_, its, r, o, h1, h2, n, h3⟩ := (show ObjOk P w H h a (.tup (ks.map kV)) from ok a _ e)
  exact ⟨o, its.toArray, n, h1, h2, h3, by simpa using items_are r⟩
theorem dt_rd {kvs : List (List Key × V)} (ok : HOk P w H h) (e : Rd H a (.dT kvs)) : kvs.length ≤ sizeLine ∧ (a == sysModules) = false ∧
    ∃ xs, KT H kvs xs ∧ h.DictOfH (tupleKind (mixKind P w)) a xs := by
  obtain ⟨z, y, xs, r, o, es, ep, h1, h2, h3, h4, h5⟩ := (show ObjOk P w H h a (.dT kvs) from rd_of ok e)
  refine ⟨z, y, xs, r, o, es, ep, h1, h2, h3, h4, fun x hx => ?_, h5⟩
  have all : ∀ {l : List (List Key × V)} {m : List (List Key × Addr × Value)}, KT H l m → ∀ x ∈ m, (tupleKind (mixKind P w)).is h x.1 x.2.1 := by
    intro l m q
    induction q with
    | nil => intro x hx; exact nomatch hx
    | @cons p q ps qs hq t ih =>
      intro x hx
      rcases List.mem_cons.mp hx with e | hx
      · subst e
        exact key_of ok (by rw [← hq.1]; exact hq.2.1)
      · exact ih x hx
  exact all r x hx
end
noncomputable def DGet (H : Hp) (a : Addr) (y : V) (r : Option V) : Prop :=
  (∃ kvs k, Rd H a (.dK kvs) ∧ y = kV k ∧ r = valV kvs k) ∨ ∃ kvs k b, Rd H a (.dT kvs) ∧ y = .ref b ∧ H b = some (.tup (k.map kV)) ∧ r = valV kvs k
noncomputable def DPut (H : Hp) (a : Addr) (y v : V) (H' : Hp) : Prop :=
  (∃ kvs k, H a = some (.dK kvs) ∧ y = kV k ∧ kvs.length < sizeLine ∧ H' = upd H a (.dK (putK kvs k v))) ∨
  ∃ kvs k b, H a = some (.dT kvs) ∧ y = .ref b ∧ H b = some (.tup (k.map kV)) ∧ kvs.length < sizeLine ∧ H' = upd H a (.dT (putK kvs k v))
theorem DGet.k {H : Hp} {a : Addr} {kvs : List (Key × V)} {k : Key} (e : H a = some (.dK kvs)) : DGet H a (kV k) (valV kvs k) := .inl ⟨kvs, k, .inl e, rfl, rfl⟩
theorem DGet.t {H : Hp} {a b : Addr} {kvs : List (List Key × V)} {k : List Key} (e : H a = some (.dT kvs)) (eb : H b = some (.tup (k.map kV))) : DGet H a (.ref b) (valV kvs k) := .inr ⟨kvs, k, b, .inl e, rfl, eb, rfl⟩
theorem DPut.k {H : Hp} {a : Addr} {kvs : List (Key × V)} {k : Key} {v : V} (e : H a = some (.dK kvs)) (hl : kvs.length < sizeLine) : DPut H a (kV k) v (upd H a (.dK (putK kvs k v))) := .inl ⟨kvs, k, e, rfl, hl, rfl⟩
theorem DPut.t {H : Hp} {a b : Addr} {kvs : List (List Key × V)} {k : List Key} {v : V} (e : H a = some (.dT kvs)) (eb : H b = some (.tup (k.map kV))) (hl : kvs.length < sizeLine) :
    DPut H a (.ref b) v (upd H a (.dT (putK kvs k v))) := .inr ⟨kvs, k, b, e, rfl, eb, hl, rfl⟩
section
variable {X : Cx} {pins : List (Addr × Obj)} {σ : St} {H : Hp} {s : Shared} {a : Addr} {y v : V} {u r : Value} {o : Option V} {A : Around} {E : Value → Shared → Prop}
theorem d_getItem {Q : Value → Shared → Prop} (hu : A.units + 1 < cLine) (I : Inv X pins σ H s) (g : DGet H a y (some v)) (ry : RelV y u) (h : ∀ w' s', Inv X pins σ H s' → RelV v w' → Q w' s') :
    wpAny (model X.prog X.w) A (getItem (.ref a) u) Q E s := by
  rcases g with ⟨kvs, k, e, ey, l⟩ | ⟨kvs, k, b, e, ey, eb, l⟩
  · subst ey
    obtain ⟨z, hd, vs, rel, dd⟩ := dk_rd I.hok e
    obtain ⟨w', hw, rw'⟩ := RelO.some_of (v := v) (o := valueAt vs k) (by rw [l]; exact rel.val k)
    exact wpAny_getItem_of (kV_is ry) dd.mapOf hw (h w' _ (I.tok _) rw')
  · subst ey
    cases (show u = Value.ref b from ry)
    obtain ⟨z, hd, xs, rel, dd⟩ := dt_rd I.hok e
    obtain ⟨w', hw, rw'⟩ := RelO.some_of (v := v) (o := (atKey xs k).map (·.2)) (by rw [l]; exact rel.val k)
    obtain ⟨p, hp, hp2⟩ := Option.map_eq_some_iff.mp hw
    refine wpAny_getItem_heap (tupleKind_room_in1 hu) (key_of I.hok eb) dd hp ?_
    rw [hp2]
    exact h w' _ (I.tok _) rw'
theorem d_in {Q : Value → Shared → Prop} (hu : A.units + 1 < cLine) (I : Inv X pins σ H s) (g : DGet H a y o) (ry : RelV y u) (h : ∀ s', Inv X pins σ H s' → Q (.bool o.isSome) s') :
    wpAny (model X.prog X.w) A (compareOp .In u (.ref a)) Q E s := by
  rcases g with ⟨kvs, k, e, ey, l⟩ | ⟨kvs, k, b, e, ey, eb, l⟩
  · subst ey
    obtain ⟨z, hd, vs, rel, dd⟩ := dk_rd I.hok e
    refine wpAny_in_of (kV_is ry) hd dd.mapOf ?_
    rw [← (rel.val k).isSome_eq, ← l]
    exact h _ (I.tok _)
  · subst ey
    cases (show u = Value.ref b from ry)
    obtain ⟨z, hd, xs, rel, dd⟩ := dt_rd I.hok e
    refine wpAny_in_heap (tupleKind_room_in1 hu) (key_of I.hok eb) hd dd ?_
    have q := (rel.val k).isSome_eq
    rw [Option.isSome_map] at q
    rw [← q, ← l]
    exact h _ (I.tok _)
end
section
variable {X : Cx} {pins : List (Addr × Obj)} {σ : St} {H : Hp} {s : Shared} {a : Addr} {kvs : List (Key × V)} {k : Key} {u : Value} {A : Around} {E : Value → Shared → Prop}
end
theorem dict_typeIs {X : Cx} {pins : List (Addr × Obj)} {σ : St} {H : Hp} {s : Shared} {a : Addr} {y : V} {o : Option V} (I : Inv X pins σ H s) (g : DGet H a y o) : s.TypeIs (.ref a) "dict" := by
  rcases g with ⟨kvs, k, e, _, _⟩ | ⟨kvs, k, b, e, _, _, _⟩
  · obtain ⟨_, _, vs, _, dd⟩ := dk_rd I.hok e
    exact dd.typeIs
  · obtain ⟨_, _, xs, _, dd⟩ := dt_rd I.hok e
    exact dd.typeIs
section
variable {X : Cx} {o i e value : Expr} {pos pos' tpos : Pos} {td ty tv : TE}
end
section
variable {X : Cx} {pos : Pos}
end
section
variable {X : Cx} {pins : List (Addr × Obj)} {σ : St} {H : Hp} {s : Shared} {a : Addr} {y d : V} {u r : Value} {o : Option V} {A : Around} {E : Value → Shared → Prop}
end
section
variable {X : Cx} {o e f : Expr} {apos cpos : Pos} {td ty tx : TE}
end
section
variable {X : Cx} {pins : List (Addr × Obj)} {σ : St} {H : Hp} {s : Shared} {a : Addr} {kvs : List (Key × V)} {A : Around} {E : Value → Shared → Prop}
end
section
variable {X : Cx} {pins : List (Addr × Obj)} {σ : St} {H : Hp} {s : Shared} {a : Addr} {y : V} {u : Value} {A : Around} {E : Value → Shared → Prop}
end
end L2
namespace Att
open PySem PySem.W PySem.Calls PyProof.Rows
theorem ints_of_wellAll {P : Params} {h : Heap} : ∀ (ns : List Int) (vs : List Value), WellAll P h vs (ns.map WData.int) → IntsAre vs ns := by
  intro ns
  induction ns with
  | nil =>
    intro vs w
    rw [List.map_nil] at w
    cases w
    exact .nil
  | cons n ns ih =>
    intro vs w
    rw [List.map_cons] at w
    cases w with
    | cons a b =>
      cases a
      exact .cons _ _ (ih _ b)
theorem script_of {l : OpenLaw} {n : Nat} (hn : l.most = some n) {P : Params} {h : Heap} {args : List WData} {vals : List Value}
    (hpre : l.row.toRowW.claim.pre args = true) (hwl : WellAll P h vals args) :
    ∃ a vs ns, vals = [Value.ref a] ∧ args = [WData.list (ns.map WData.int)] ∧ h.get? a = some { cls := .type "list", data := .seq vs.toArray } ∧ IntsAre vs ns ∧ ns.length ≤ n := by
  have hsh : WShape.hasAll [] args [.list .int] = true := (pre_splitW hpre).1
  have hc : l.pre.holds [] { args := args } = true := (pre_splitW hpre).2
  obtain ⟨d, r, rfl, h1, h2⟩ := hasAllW_cons hsh
  obtain rfl := hasAllW_nil h2
  obtain ⟨xs, rfl, h3⟩ := hasW_list h1
  obtain ⟨ns, rfl⟩ := items_int h3
  have hlen : ns.length ≤ n := by
    unfold OpenLaw.pre at hc
    have h4 : (WTm.not (.lt (.lit (.int (n : Int))) (.len (.arg 0)))).holds [] { args := [.list (ns.map .int)] } = true := by
      have h4 := (holds_andW hc).1
      rw [hn] at h4
      exact h4
    have h5 := condW_of h4 (w_not (w_lt w_lit (w_len_list (w_arg rfl))))
    rw [List.length_map] at h5
    refine Nat.le_of_not_lt fun q => ?_
    have q' : (n : Int) < ((ns.length : Nat) : Int) := by omega
    first
      | (rw [decide_eq_true q'] at h5; exact absurd h5 (by decide))
      | (simp at h5; omega)
  cases hwl with
  | cons w1 w2 =>
    cases w2
    cases w1 with
    | list ho hall => exact ⟨_, _, ns, rfl, rfl, ho, ints_of_wellAll ns _ hall, hlen⟩
theorem post_true (l : OpenLaw) (args : List WData) : l.row.toRowW.claim.post args (.bool true) args = true :=
  postW_of (r := l.row.toRowW) (X := (true == true))
    (show WShape.has [] (.bool true) .bool = true by first | rfl | decide | simp [WShape.has, WShape.arms, WShape.armsAll])
    (show (WTm.eq .res (.lit (.bool true))).value [] { args := args, res := some (.bool true), after := args } = some (.bool (true == true)) from w_eq_bool (w_res rfl) w_lit) rfl
theorem attach_call {l : OpenLaw} {n : Nat} {q : Program} {loose : List Str} {XP : (Str → Option Value) → Heap → Prop} {YP : World → Heap → Prop} {d : DefRec}
    (hn : l.most = some n) (hdf : d.params.defaults = [])
    (call : ∀ (w : World) (s₀ s₁ : Shared) (mg mb : Str → Option Value) (fa : Addr) (o : Obj) (pm cd doc : Value) (a : Addr) (vs : List Value) (ns : List Int),
      Ground q loose [] XP w s₀ mg mb s₁.heap → YP w s₁.heap →
      s₁.heap.get? fa = some o → o.data = .func (docDef d.name d.params d.body d.scope pm cd doc) → s₁.heap.CodeRec cd d.name → mg d.name = some (.ref fa) →
      s₁.heap.get? a = some { cls := .type "list", data := .seq vs.toArray } → IntsAre vs ns → ns.length ≤ n → s₁.gens = #[] →
      codeAny (model l.prog w) callerA (.call (.ref fa) ⟨[.ref a], []⟩) (fun r s' => r = .ok (.ret (.bool true)) ∧ OldK s₁.heap s'.heap ∧ s'.os = s₁.os ∧ AllBare s'.gens) s₁) :
    WalkO q loose XP YP l.row.toRowW d [] (fun f vs => PySem.call f vs) := by
  intro w s₀ s₁ mg mb G Y fa o pm cd doc dV kV ho hd hcd hD hmg hg args vals as hpre hlay hrd hwl hlo
  obtain rfl : dV = .none := Dflts.none hD hdf
  obtain rfl : kV = .none := Dflts.noKw hD
  obtain ⟨a, vs, ns, rfl, rfl, hobj, hints, hlen⟩ := script_of hn hpre hwl
  refine enter_call (codeAny_mono (call w s₀ s₁ mg mb fa o pm cd doc a vs ns G Y ho (fd_plain hd) hcd hmg hobj hints hlen hg) fun r s' hq => ?_)
  obtain ⟨rfl, h2, h3, h4⟩ := hq
  exact ⟨.inl ⟨.bool true, .bool true, [], rfl, fun _ => rfl, .bool true, post_true l _, fun _ => ⟨List.Pairwise.nil, fun _ hm => (nomatch hm)⟩⟩, h2, h3, h4⟩
section
variable {prog : Program} {w : World} {A : Around} {E : Value → Shared → Prop} {s : Shared} {K : Frag}
noncomputable def ledger (h : Heap) (L d : Addr) : List (Addr × Obj) := (List.range h.objs.size).filterMap fun a => if a = L ∨ a = d then none else (h.get? a).map fun o => (a, o)
end
end Att
namespace L2
open PySem PySem.Spec PyProof.Rows
theorem vals_ints : ∀ {vs : List Value} {ns : List Int}, IntsAre vs ns → Vals (ns.map V.int) vs
  | _, _, .nil => .nil
  | _, _, .cons n t h => .cons ⟨t, rfl⟩ (vals_ints h)
noncomputable def Only (H : Hp) : Prop := ∀ b, H b = none ∨ ∃ o xs, H b = some (.frz o (.lst xs))
theorem law_call {P : Program} {w : World} {K : PySem.W.Frag} {mg mb : Str → Option Value} {CX : CXT} {k : Nat} {fa a : Addr} {fd : FuncData} {x : Str} {sp : Sp} {s₁ : Shared} {vs : List Value} {ns : List Int}
    (KX : K.In s₁.heap) (hns : s₁.heap.Ns mainGlobals mg) (hb : s₁.heap.Ns builtinsNs mb) (hbb : ∀ x : Str, x ≠ "__name__" → mb x = bootBuiltins x) (hlim : s₁.heap.NoLimit) (hg : s₁.gens = #[])
    (ha : s₁.heap.get? a = some { cls := .type "list", data := .seq vs.toArray }) (hi : IntsAre vs ns) (hl : ns.length ≤ sizeLine) (hr : Room k callerA)
    (F : ∀ base : Heap, K.In base → base.Ns mainGlobals mg → FnOk P w K mg base CX k fa fd [x] sp) (hbind : ∀ (s : Shared) (u : Value), BindsTo s fd ⟨[u], []⟩ [(x, u)])
    (hsp : ∀ H : Hp, Only H → SqL K H a (ns.map V.int) → sp [.ref a] H (fun v _ => v = .bl true) fun _ _ _ => False)
    (hCX : ∀ H e s', CX [] H s₁ (fun _ _ _ => False) e s' → False) :
    codeAny (model P w) callerA (.call (.ref fa) ⟨[.ref a], []⟩) (fun r s' => r = .ok (.ret (.bool true)) ∧ OldK s₁.heap s'.heap ∧ s'.os = s₁.os ∧ AllBare s'.gens) s₁ := by
  have rv := vals_ints hi
  have lenV := hi.length
  -- from an abstract heap in which nothing but the script may be tracked
  have core : ∀ H : Hp, Only H → SqL K H a (ns.map V.int) → HOk P w H s₁.heap → (∀ b, H b ≠ none → b = a) → (H a ≠ none → K.lookup a = none) →
      codeAny (model P w) callerA (.call (.ref fa) ⟨[.ref a], []⟩) (fun r s' => r = .ok (.ret (.bool true)) ∧ OldK s₁.heap s'.heap ∧ s'.os = s₁.os ∧ AllBare s'.gens) s₁ := by
    intro H hO hS hok hA hK
    have base_of : ∀ {b : Addr} {o : Obj}, s₁.heap.get? b = some o → H b = none → (hidT s₁.heap H).get? b = some o := fun e n => hidT_get e n
    have noA : ∀ {b : Addr} {o : Obj} {es : Array DictEntry} {ep : Nat}, s₁.heap.get? b = some o → o.data = .dict es ep → H b = none := fun {b o es ep} e d => by
      cases q : H b with
      | none => rfl
      | some u =>
        have e' : b = a := hA b (by rw [q]; simp)
        subst e'
        rw [ha] at e; cases e
        have d' : Data.seq vs.toArray _ = Data.dict es ep := d
        cases d'
    have nsK : ∀ {b : Addr} {m : Str → Option Value}, s₁.heap.Ns b m → (hidT s₁.heap H).Ns b m := fun {b m} ⟨o, es, ep, e, d, r⟩ => ⟨o, es, ep, base_of e (noA e d), d, r⟩
    have hKb : K.In (hidT s₁.heap H) := fun b o e => base_of (KX b o e) (by
      cases q : H b with
      | none => rfl
      | some u =>
        have e' : b = a := hA b (by rw [q]; simp)
        subst e'
        rw [hK (by rw [q]; simp)] at e; cases e)
    have hM : Mod K mg (hidT s₁.heap H) := ⟨hKb, nsK hns, ⟨mb, nsK hb, hbb⟩, let ⟨mc, h1, h2⟩ := hlim; ⟨mc, nsK h1, h2⟩⟩
    have e0 : Env0 P w K mg (hidT s₁.heap H) callerA [] s₁ H := ⟨rfl, hM, fun b o e => of_hidT e, Nat.le_of_eq (hidT_size _ _), trivial, fun b hb => absurd (show b ∈ ([] : List Addr) from hb) (by simp), hok, .of_eq hg⟩
    refine codeAny_mono ((F _ hKb (nsK hns)).run callerA [] s₁ H ⟨[.ref a], []⟩ [.ref a] [.ref a] _ _ hr e0 (hbind s₁ (.ref a)) (.cons rfl .nil) (hsp H hO hS)) fun r s' h => ?_
    cases r with
    | error e => exact (hCX H e s' h).elim
    | ok fl =>
      cases fl with
      | next => exact False.elim h
      | brk => exact False.elim h
      | cont => exact False.elim h
      | ret u =>
        obtain ⟨v, H', os, bare, un, hok', r', q⟩ := h
        have q' : v = .bl true := q
        subst q'
        obtain rfl : u = Value.bool true := r'
        refine ⟨rfl, OldK.of_keep fun b o e => ?_, os, bare⟩
        cases q : H b with
        | none => exact un.keep b o e q (by intro z; exact absurd (show b ∈ ([] : List Addr) from z) (by simp)) (by simp)
        | some u =>
          rcases hO b with z | ⟨ob, xs, z⟩
          · rw [q] at z; cases z
          · have z2 := un.frzs b ob _ z
            obtain ⟨e1, _⟩ := hok b _ z
            obtain ⟨e2, _⟩ := hok' b _ z2
            rw [e] at e1; cases e1
            exact e2
  cases hk : K.lookup a with
  | some o =>
    -- the script is one of the module's own objects
    have e := KX a o hk
    rw [ha] at e
    cases e
    refine core (fun _ => none) (fun _ => .inl rfl) (.inr ⟨_, vs.toArray, _, hk, rfl, rfl, rfl, by rw [List.size_toArray, lenV]; exact hl, by simpa using rv⟩) (fun b u z => by have z' : (none : Option HO) = some u := z; cases z') (fun b z => absurd rfl z) fun z => absurd rfl z
  | none =>
    refine core (fun b => if b = a then some (.frz { cls := .type "list", data := .seq vs.toArray } (.lst (ns.map V.int))) else none) (fun b => ?_) (.inl (.inr ⟨{ cls := .type "list", data := .seq vs.toArray }, if_pos rfl⟩)) (fun b u z => ?_) (fun b z => ?_) fun _ => hk
    · by_cases hb : b = a
      · exact .inr ⟨_, _, if_pos hb⟩
      · exact .inl (if_neg hb)
    · by_cases hb : b = a
      · have z' := (if_pos hb).symm.trans z
        cases z'
        subst hb
        exact ⟨ha, by rw [List.length_map]; exact hl, vs, _, rv, ha⟩
      · have z' := (if_neg hb).symm.trans z
        cases z'
    · by_cases hb : b = a
      · exact hb
      · exact absurd (if_neg hb) z
end L2
namespace L2
open PySem PySem.Spec PyProof.Rows
noncomputable abbrev KOf {K : PySem.W.Frag} {h : Heap} (_ : K.In h) : PySem.W.Frag := K
theorem walk_of {l : PySem.W.OpenLaw} {n k : Nat} {q : Program} {loose : List Str} {XP : (Str → Option Value) → Heap → Prop} {YP : World → Heap → Prop} {d : DefRec} {K : Params → PySem.W.Frag} {CX : World → CXT} {sp : World → Sp} {x : Str}
    (hn : l.most = some n) (hn2 : n ≤ sizeLine) (hdf : d.params.defaults = []) (hr : Room k callerA)
    (hY : ∀ (w : World) (h : Heap), YP w h → (K w.params).In h)
    (F : ∀ (w : World) (mg : Str → Option Value) (fa : Addr) (h : Heap), (K w.params).In h → h.Ns mainGlobals mg → mg d.name = some (.ref fa) →
      ∃ fd : FuncData, (∀ (s : Shared) (u : Value), BindsTo s fd ⟨[u], []⟩ [(x, u)]) ∧
        ∀ base : Heap, (K w.params).In base → base.Ns mainGlobals mg → FnOk l.prog w (K w.params) mg base (CX w) k fa fd [x] (sp w))
    (hsp : ∀ (w : World) (H : Hp) (a : Addr) (ns : List Int), ns.length ≤ n → Only H → SqL (K w.params) H a (ns.map V.int) → sp w [.ref a] H (fun v _ => v = .bl true) fun _ _ _ => False)
    (hCX : ∀ (w : World) (H : Hp) (s : Shared) (e : Value) (s' : Shared), CX w [] H s (fun _ _ _ => False) e s' → False) :
    PySem.W.WalkO q loose XP YP l.row.toRowW d [] (fun f vs => PySem.call f vs) := by
  refine Att.attach_call hn hdf fun w s₀ s₁ mg mb fa o pm cd doc a vs ns G Y ho hd hcd hmg hobj hints hlen hg => ?_
  have KX := hY w _ Y
  obtain ⟨fd, hb, hF⟩ := F w mg fa _ KX G.T.g hmg
  exact law_call KX G.T.g G.T.b G.T.builtins G.T.nolimit hg hobj hints (Nat.le_trans hlen hn2) hr hF hb (fun H hO hS => hsp w H a ns hlen hO hS) fun H e s' => hCX w H s₁ e s'
theorem walk_ofK {l : PySem.W.OpenLaw} {n k : Nat} {q : Program} {loose : List Str} {XP : (Str → Option Value) → Heap → Prop} {YP : World → Heap → Prop} {d : DefRec} {K : Params → PySem.W.Frag} {CX : CXT} {sp : PySem.W.Frag → Sp} {x : Str}
    (hn : l.most = some n) (hn2 : n ≤ sizeLine) (hdf : d.params.defaults = []) (hr : Room k callerA)
    (hY : ∀ (w : World) (h : Heap), YP w h → (K w.params).In h)
    (F : ∀ (w : World) (mg : Str → Option Value) (fa : Addr) (h : Heap), (K w.params).In h → h.Ns mainGlobals mg → mg d.name = some (.ref fa) →
      ∃ fd : FuncData, (∀ (s : Shared) (u : Value), BindsTo s fd ⟨[u], []⟩ [(x, u)]) ∧
        ∀ base : Heap, (K w.params).In base → base.Ns mainGlobals mg → FnOk l.prog w (K w.params) mg base CX k fa fd [x] (sp (K w.params)))
    (hsp : ∀ (K : PySem.W.Frag) (H : Hp) (a : Addr) (ns : List Int), ns.length ≤ n → Only H → SqL K H a (ns.map V.int) → sp K [.ref a] H (fun v _ => v = .bl true) fun _ _ _ => False)
    (hCX : ∀ (H : Hp) (s : Shared) (e : Value) (s' : Shared), CX [] H s (fun _ _ _ => False) e s' → False) :
    PySem.W.WalkO q loose XP YP l.row.toRowW d [] (fun f vs => PySem.call f vs) :=
  walk_of (K := K) (CX := fun _ => CX) (sp := fun w => sp (K w.params)) hn hn2 hdf hr hY F (fun w H a ns h1 h2 h3 => hsp (K w.params) H a ns h1 h2 h3) fun _ H s e s' => hCX H s e s'
end L2
namespace L2
open PySem PySem.Spec PyProof.Rows
noncomputable def defArgs (s : Stmt) : Arguments := match s with
  | .FunctionDef _ a _ _ _ _ _ _ _ _ => a
  | _ => { posonlyargs := [], args := [], vararg := none, kwonlyargs := [], kw_defaults := [], kwarg := none, defaults := [] }
noncomputable def defBody (s : Stmt) : List Stmt := match s with
  | .FunctionDef _ _ b _ _ _ _ _ _ _ => b
  | _ => []
noncomputable def defScope (s : Stmt) : Scope := match s with
  | .FunctionDef _ _ _ _ _ _ sc _ _ _ => sc
  | _ => { kind := .function, names := [], isGenerator := false, isCoroutine := false }
noncomputable abbrev CX0 : CXT := fun _ _ _ _ _ _ => False
noncomputable abbrev E0 : XK := fun _ _ _ => False
theorem pass0 {X : Cx} : Passes CX0 X E0 := fun _ _ _ _ _ _ _ h => h.elim
structure Fun (K : PySem.W.Frag) (x qual : Str) (st : Stmt) (f : Addr) (fd : FuncData) : Prop where
  ex : ∃ (oc : Value) (od : Option Addr) (kV doc pm : Value) (an : Option Addr) (cdv ct : Value) (osl : Array (Option Value)),
    fd = PySem.W.fnOf x qual (defArgs st) (defBody st) (defScope st) .none kV doc pm an cdv ct ∧ K.lookup f = some ⟨oc, od, .func fd, osl⟩ ∧ PySem.W.codeIn K cdv qual = true
  kp : PySem.W.keepIn K (.ref f) = true
section
variable {P : Program} {w : World} {K : PySem.W.Frag} {mg : Str → Option Value} {base : Heap}
theorem Fun.ok {x qual : Str} {st : Stmt} {f : Addr} {fd : FuncData} {N ps : List Str} {k : Nat} {sp : Sp} (F : Fun K x qual st f fd) (S : FnScope N ps (defScope st)) (len : ∀ vs H Q E, sp vs H Q E → vs.length = ps.length)
    (hbody : ∀ (cdv : Value) (A : Around) (outer : List Env) (s : Shared) (H : Hp) (vs : List V) (Q : VK) (E : XK), Room k (A.deeper (envOfC qual (defScope st) s.heap.objs.size f cdv)) → sp vs H Q E →
      ∃ t, PSs (cxOf CX0 P w K mg base N qual (defScope st) f cdv A outer s H E).nox (defBody st) t ∧ t { nx := fun _ H' => Q .non H', rt := Q } (start N vs) H) : FnOk P w K mg base CX0 (k + 1) f fd ps sp := by
  obtain ⟨oc, od, kV, doc, pm, an, cdv, ct, osl, rfl, lk, hcd⟩ := F.ex
  refine fn_of lk hcd S len fun A outer s H vs Q E hr hsp => ?_
  obtain ⟨t, h, q⟩ := hbody cdv A outer s H vs Q E hr hsp
  exact ⟨t, h.nox, q⟩
theorem Fun.binds {x qual : Str} {st : Stmt} {f : Addr} {fd : FuncData} {ps : List Str} (F : Fun K x qual st f fd)
    (h : ∀ (kV doc pm : Value) (an : Option Addr) (cdv ct : Value) (us : List Value), us.length = ps.length → bindArgs (PySem.W.fnOf x qual (defArgs st) (defBody st) (defScope st) .none kV doc pm an cdv ct) ⟨us, []⟩ = pure (ps.zip us)) : Binds K fd ps [] := by
  obtain ⟨oc, od, kV, doc, pm, an, cdv, ct, osl, rfl, lk, hcd⟩ := F.ex
  exact .all (h kV doc pm an cdv ct)
theorem fun_mk {x qual : Str} {st : Stmt} {f : Addr} {oc : Value} {od an : Option Addr} {osl : Array (Option Value)} {kV doc pm cdv ct : Value} (l : K.lookup f = some ⟨oc, od, .func (PySem.W.fnOf x qual (defArgs st) (defBody st) (defScope st) .none kV doc pm an cdv ct), osl⟩)
    (c : PySem.W.codeIn K cdv qual = true) (k : PySem.W.keepIn K (.ref f) = true) : Fun K x qual st f (PySem.W.fnOf x qual (defArgs st) (defBody st) (defScope st) .none kV doc pm an cdv ct) := ⟨⟨oc, od, kV, doc, pm, an, cdv, ct, osl, rfl, l, c⟩, k⟩
end
theorem small1000 {n : Nat} (h : n ≤ 1000) : n < sizeLine := Nat.lt_of_le_of_lt h (by decide)
section
variable {X : Cx}
end
noncomputable def Same (H H' : Hp) : Prop := ∀ b o, H b = some o → H' b = some o
theorem Same.refl (H : Hp) : Same H H := fun _ _ h => h
theorem Same.trans {H H1 H2 : Hp} (a : Same H H1) (b : Same H1 H2) : Same H H2 := fun c o h => b c o (a c o h)
theorem Same.free {H H' : Hp} (e : Same H H') {l : Addr} (h : H' l = Option.none) : H l = Option.none := by
  cases q : H l with
  | none => rfl
  | some o =>
    rw [e l o q] at h
    cases h
theorem Same.seq {K : PySem.W.Frag} {H H' : Hp} {a : Addr} {xs : List V} (e : Same H H') (h : SqL K H a xs) : SqL K H' a xs := by
  rcases h with (h | ⟨o, h⟩) | h
  · exact .inl (.inl (e _ _ h))
  · exact .inl (.inr ⟨o, e _ _ h⟩)
  · exact .inr h
end L2
set_option linter.all false
namespace L2.LW
open PySem
inductive D where
  | int (i : Int) | bl (b : Bool) | non | str (x : Str) | tup (l : List D) | lst (l : List D)
  | dct (t : Bool) (ks vs : List D)
mutual
noncomputable def eqD : D → D → Bool
  | .int a, .int b => a == b
  | .bl a, .bl b => a == b
  | .int a, .bl b => a == (if b then 1 else 0)
  | .bl a, .int b => (if a then 1 else 0) == b
  | .non, .non => true
  | .str a, .str b => a == b
  | .tup xs, .tup ys => eqDs xs ys
  | .lst xs, .lst ys => eqDs xs ys
  | _, _ => false
noncomputable def eqDs : List D → List D → Bool
  | [], [] => true
  | x :: xs, y :: ys => eqD x y && eqDs xs ys
  | _, _ => false
end
mutual
noncomputable def plain : D → Bool
  | .lst _ => false
  | .dct _ _ _ => false
  | .tup l => plains l
  | _ => true
noncomputable def plains : List D → Bool
  | [] => true
  | x :: xs => plain x && plains xs
end
inductive SV where
  | val (d : D) | obj (o : Bool) (d : D) | io (d : D)
noncomputable abbrev SV.lis (o : Bool) (ds : List D) : SV := .obj o (.lst ds)
noncomputable def toD : SV → Option D
  | .val d => some d
  | .obj true d => some d
  | _ => none
noncomputable def seeD : SV → D
  | .val d => d
  | .obj _ d => d
  | .io d => d
noncomputable def SV.lent : SV → Bool
  | .val _ => false
  | .obj true _ => false
  | _ => true
noncomputable def plainO : D → Bool
  | .lst ds => plains ds
  | .dct _ _ vs => plains vs
  | d => plain d
noncomputable def SV.plain : SV → Bool
  | .val d => LW.plain d
  | .obj _ d => plainO d
  | .io _ => false
noncomputable abbrev Env := List (Option SV)
inductive Ty where
  | bool | int | str | list | tuple
  deriving DecidableEq
inductive Prim where
  | add | sub | mul | fdiv | mod | neg | eq | ne | lt | le | gt | ge | isN | notN | inn | nin | idx | len | abs | min2 | max2 | sorted | skeys | cutT | cutF | addT | mulT | addS | join0 | splitN | eqS | neS | toList | toTup | all | inst (t : Ty) | cutTo | maxL | minL | sumL | intOf
  deriving DecidableEq
mutual
inductive E where
  | int (i : Int) | bl (b : Bool) | non | str (x : Str)
  | var (i : Nat)
  | prim (p : Prim) (es : Es)
  | tup (es : Es) | lst (es : Es)
  | and (a b : E) | or (a b : E) | not (a : E)
  | chain (p q : Prim) (a b c : E)
  | ite (c a b : E)
  | call (f : Nat) (es : Es)
  | comp (rng : Bool) (src : Es) (cond elt : E)
  | dnew (t : Bool) | done (t : Bool) (k v : E)
inductive Es where
  | nil | cons (e : E) (es : Es)
end
noncomputable def hasTy : Ty → D → Bool
  | .bool, .bl _ => true
  | .int, .int _ => true
  | .int, .bl _ => true
  | .str, .str _ => true
  | .list, .lst _ => true
  | .tuple, .tup _ => true
  | _, _ => false
noncomputable def ints? : List D → Option (List Int)
  | [] => some []
  | .int i :: r => (ints? r).map (i :: ·)
  | _ => none
noncomputable def lexLt : List Int → List Int → Bool
  | _, [] => false
  | [], _ :: _ => true
  | x :: xs, y :: ys => if x = y then lexLt xs ys else decide (x < y)
noncomputable def ixN (n : Nat) (i : Int) : Option Nat := if 0 ≤ i then (if i < n then some i.toNat else none) else if -(n : Int) ≤ i then some (i + n).toNat else none
noncomputable def atI {α : Type} (xs : List α) (i : Int) : Option α := (ixN xs.length i).bind fun j => xs[j]?
noncomputable def bools? : List D → Option (List Bool)
  | [] => some []
  | .bl i :: r => (bools? r).map (i :: ·)
  | _ => none
noncomputable def line : Nat := 16777216
noncomputable def seqOf : D → Option (List D)
  | .tup l => some l
  | .lst l => some l
  | _ => none
noncomputable def tups? : List D → Option (List (List Int))
  | [] => some []
  | .tup l :: r => (ints? l).bind fun x => (tups? r).map (x :: ·)
  | _ => none
noncomputable def insT (x : List Int) : List (List Int) → List (List Int)
  | [] => [x]
  | y :: r => if lexLt x y then x :: y :: r else y :: insT x r
noncomputable def sortT : List (List Int) → List (List Int)
  | [] => []
  | x :: r => insT x (sortT r)
noncomputable def sortI (l : List Int) : List Int := l.mergeSort (fun a b => decide (a ≤ b))
noncomputable def shal : Nat → D → Bool
  | _, .int _ => true
  | _, .bl _ => true
  | _, .non => true
  | _, .str _ => false
  | 0, _ => false
  | n + 1, .tup l => l.all (shal n)
  | n + 1, .lst l => l.all (shal n)
  | _ + 1, .dct _ _ _ => false
noncomputable def isKey : Bool → D → Bool
  | false, .int _ => true
  | true, .tup l => (ints? l).isSome
  | _, _ => false
noncomputable def kix (ks : List D) (k : D) : Option Nat := ks.findIdx? fun x => eqD x k
noncomputable def dget (ks vs : List D) (k : D) : Option D := (kix ks k).bind fun i => vs[i]?
noncomputable def dput (t : Bool) (ks vs : List D) (k v : D) : D := if (kix ks k).isSome then .dct t ks (List.zipWith (fun k' v' => if eqD k' k then v else v') ks vs) else .dct t (ks ++ [k]) (vs ++ [v])
noncomputable def okInt (r : Int) : Option SV := some (.val (.int r))
noncomputable def okBl (r : Bool) : Option SV := some (.val (.bl r))
noncomputable def pAdd : List D → Option SV
  | [.int a, .int b] => okInt (a + b)
  | [.lst a, .lst b] => if a.length + b.length ≤ line then some (SV.obj true (.lst (a ++ b))) else none
  | _ => none
noncomputable def pSub : List D → Option SV
  | [.int a, .int b] => okInt (a - b)
  | _ => none
noncomputable def pMul : List D → Option SV
  | [.int a, .int b] => if (-(2 ^ 64) < a ∧ a < 2 ^ 64) ∨ (-(2 ^ 64) < b ∧ b < 2 ^ 64) then okInt (a * b) else none
  | _ => none
noncomputable def pFdiv : List D → Option SV
  | [.int a, .int b] => if 0 < b ∧ b < 1073741824 then okInt (a / b) else none
  | _ => none
noncomputable def pMod : List D → Option SV
  | [.int a, .int b] => if 0 < b then okInt (a % b) else none
  | _ => none
noncomputable def pNeg : List D → Option SV
  | [.int a] => okInt (-a)
  | _ => none
noncomputable def pEq : List D → Option SV
  | [a, b] => if shal 8 a && shal 8 b then okBl (eqD a b) else none
  | _ => none
noncomputable def pNe : List D → Option SV
  | [a, b] => if shal 8 a && shal 8 b then okBl (!eqD a b) else none
  | _ => none
noncomputable def pLt : List D → Option SV
  | [.int a, .int b] => okBl (decide (a < b))
  | [.tup a, .tup b] => (ints? a).bind fun x => (ints? b).bind fun y => okBl (lexLt x y)
  | _ => none
noncomputable def pLe : List D → Option SV
  | [.int a, .int b] => okBl (decide (a ≤ b))
  | _ => none
noncomputable def pGt : List D → Option SV
  | [.int a, .int b] => okBl (decide (b < a))
  | _ => none
noncomputable def pGe : List D → Option SV
  | [.int a, .int b] => okBl (decide (b ≤ a))
  | _ => none
noncomputable def isNon : D → Bool
  | .non => true
  | _ => false
noncomputable def pIsN : List D → Option SV
  | [d] => okBl (isNon d)
  | _ => none
noncomputable def pNotN : List D → Option SV
  | [d] => okBl (!isNon d)
  | _ => none
noncomputable def pIn : List D → Option SV
  | [x, .dct t ks _] => if isKey t x then okBl (kix ks x).isSome else none
  | [x, .tup l] => if shal 8 x && l.all (shal 8) then okBl (l.any fun y => eqD y x) else none
  | [x, .lst l] => if shal 8 x && l.all (shal 8) then okBl (l.any fun y => eqD y x) else none
  | _ => none
noncomputable def pNin : List D → Option SV
  | [x, .dct t ks _] => if isKey t x then okBl (!(kix ks x).isSome) else none
  | [x, .tup l] => if shal 8 x && l.all (shal 8) then okBl (!l.any fun y => eqD y x) else none
  | [x, .lst l] => if shal 8 x && l.all (shal 8) then okBl (!l.any fun y => eqD y x) else none
  | _ => none
noncomputable def pIdx : List D → Option SV
  | [.dct t ks vs, k] => if isKey t k then (dget ks vs k).map .val else none
  | [.tup l, .int i] => (atI l i).map .val
  | [.lst l, .int i] => (atI l i).map .val
  | _ => none
noncomputable def pLen : List D → Option SV
  | [.tup l] => okInt l.length
  | [.lst l] => okInt l.length
  | _ => none
noncomputable def pAbs : List D → Option SV
  | [.int i] => okInt (if i < 0 then -i else i)
  | _ => none
noncomputable def pMin2 : List D → Option SV
  | [.int i, .int j] => okInt (if j < i then j else i)
  | _ => none
noncomputable def pMax2 : List D → Option SV
  | [.int i, .int j] => okInt (if j > i then j else i)
  | _ => none
noncomputable def sortedL (l : List D) : Option SV := match ints? l with
  | some ns => if ns.length < 64 then some (.obj true (.lst ((sortI ns).map .int))) else none
  | none => (tups? l).bind fun ks => if ks.length < 64 ∧ ks.Nodup ∧ ks.all (fun k => !k.isEmpty) = true then some (.obj true (.lst ((sortT ks).map fun k => .tup (k.map .int)))) else none
noncomputable def pSorted : List D → Option SV
  | [.lst l] => sortedL l
  | _ => none
noncomputable def sortedK (l : List D) : Option SV := (tups? l).bind fun ks => if ks.length < 64 ∧ ks.Nodup ∧ ks.all (fun k => !k.isEmpty) = true then some (.obj true (.lst ((sortT ks).map fun k => .tup (k.map .int)))) else none
noncomputable def pSkeys : List D → Option SV
  | [.dct true ks _] => sortedK ks
  | _ => none
noncomputable def pCutT : List D → Option SV
  | [.tup l, .int k] => if 0 ≤ k ∧ k < l.length then some (.val (.tup (l.take k.toNat))) else none
  | _ => none
noncomputable def pCutF : List D → Option SV
  | [.tup l, .int k] => if 0 < k ∧ 0 < l.length then some (.val (.tup (l.drop k.toNat))) else none
  | _ => none
noncomputable def pAddT : List D → Option SV
  | [.tup a, .tup b] => if a.length + b.length ≤ 10000000 then some (.val (.tup (a ++ b))) else none
  | _ => none
noncomputable def pMulT : List D → Option SV
  | [.tup l, .int k] => if k = 2 ∧ l.length ≤ 1000 ∧ l ≠ [] then some (.val (.tup (l ++ l))) else none
  | _ => none
noncomputable def pAddS : List D → Option SV
  | [.str a, .str b] => if a.length + b.length ≤ 10000000 then some (.val (.str (a ++ b))) else none
  | _ => none
noncomputable def strs? : List D → Option (List Str)
  | [] => some []
  | .str x :: r => (strs? r).map (x :: ·)
  | _ => none
noncomputable def glue0 (ys : List Str) : Str := ⟨(ys.flatMap fun y => y.cps.toList).toArray⟩
noncomputable def pJoin0 : List D → Option SV
  | [.lst l] => (strs? l).bind fun ys => if (ys.map (·.length)).sum ≤ 10000000 then some (.val (.str (glue0 ys))) else none
  | _ => none
noncomputable def cutC (c : Nat) : List Nat → List (List Nat)
  | [] => [[]]
  | a :: r => if a = c then [] :: cutC c r else match cutC c r with
    | p :: ps => (a :: p) :: ps
    | [] => [[a]]
noncomputable def rowsOf (x : Str) : List Str := (cutC 10 x.cps.toList).map fun l => ⟨l.toArray⟩
noncomputable def pSplitN : List D → Option SV
  | [.str x] => if x.length ≤ 10000000 then some (.obj true (.lst ((rowsOf x).map D.str))) else none
  | _ => none
noncomputable def signsD (x : Str) : List D := x.cps.toList.map fun c => D.str ⟨#[c]⟩
noncomputable def pEqS : List D → Option SV
  | [.str a, .str b] => some (.val (.bl (decide (a = b))))
  | _ => none
noncomputable def pNeS : List D → Option SV
  | [.str a, .str b] => some (.val (.bl (!decide (a = b))))
  | _ => none
noncomputable def pToList : List D → Option SV
  | [.tup l] => some (SV.obj true (.lst l))
  | [.lst l] => some (SV.obj true (.lst l))
  | _ => none
noncomputable def pToTup : List D → Option SV
  | [.tup l] => some (.val (.tup l))
  | [.lst l] => some (.val (.tup l))
  | _ => none
noncomputable def pAll : List D → Option SV
  | [.lst l] => (bools? l).bind fun bs => okBl (bs.all id)
  | _ => none
noncomputable def pInst (t : Ty) : List D → Option SV
  | [d] => okBl (hasTy t d)
  | _ => none
noncomputable def pCutTo : List D → Option SV
  | [.lst l, .int k] => if 0 ≤ k then some (SV.obj true (.lst (l.take k.toNat))) else none
  | _ => none
noncomputable def pMaxL : List D → Option SV
  | [.lst l] => (ints? l).bind fun ns => match ns with
    | [] => none
    | n :: r => okInt (r.foldl max n)
  | _ => none
noncomputable def pMinL : List D → Option SV
  | [.lst l] => (ints? l).bind fun ns => match ns with
    | [] => none
    | n :: r => okInt (r.foldl min n)
  | _ => none
noncomputable def pSumL : List D → Option SV
  | [.lst l] => (ints? l).bind fun ns => okInt ns.sum
  | [.tup l] => (ints? l).bind fun ns => okInt ns.sum
  | _ => none
noncomputable def pIntOf : List D → Option SV
  | [.int i] => okInt i
  | [.bl b] => okInt (if b then 1 else 0)
  | _ => none
noncomputable def primD : Prim → List D → Option SV
  | .add => pAdd | .sub => pSub | .mul => pMul | .fdiv => pFdiv | .mod => pMod | .neg => pNeg | .eq => pEq | .ne => pNe | .lt => pLt | .le => pLe | .gt => pGt | .ge => pGe
  | .isN => pIsN | .notN => pNotN | .inn => pIn | .nin => pNin | .idx => pIdx | .len => pLen | .abs => pAbs | .min2 => pMin2 | .max2 => pMax2
  | .sorted => pSorted | .skeys => pSkeys | .cutT => pCutT | .cutF => pCutF | .addT => pAddT | .mulT => pMulT | .addS => pAddS | .join0 => pJoin0 | .splitN => pSplitN | .eqS => pEqS | .neS => pNeS | .toList => pToList | .toTup => pToTup | .all => pAll | .inst t => pInst t | .cutTo => pCutTo | .maxL => pMaxL | .minL => pMinL | .sumL => pSumL | .intOf => pIntOf
noncomputable def truth : SV → Option Bool
  | .val (.bl b) => some b
  | .val (.int i) => some (i != 0)
  | .val .non => some false
  | .val (.tup l) => some (!l.isEmpty)
  | .val (.lst l) => some (!l.isEmpty)
  | .obj _ (.lst l) => some (!l.isEmpty)
  | _ => none
noncomputable def look (ρ : Env) (i : Nat) : Option SV := match ρ[i]? with
  | some (some (.val d)) => some (.val d)
  | some (some (.obj _ d)) => some (.obj false d)
  | some (some (.io d)) => some (.obj false d)
  | _ => none
noncomputable def free (ρ : Env) (i : Nat) : Bool := match ρ[i]? with
  | some (some (.io _)) => false
  | _ => true
noncomputable def SV.cell : SV → Option D
  | .obj true d => some d
  | .io d => some d
  | _ => none
noncomputable def SV.put : SV → D → SV
  | .io _, d => .io d
  | _, d => .obj true d
noncomputable def inR (j : Int) : Prop := -(2 ^ 62) ≤ j ∧ j < 2 ^ 62
noncomputable instance (j : Int) : Decidable (inR j) := by unfold inR; exact inferInstance
noncomputable def itemsOf : Bool → List SV → Option (List D)
  | false, [r] => seqOf (seeD r)
  | true, [.val (.int n)] => if inR n then some ((List.range n.toNat).map fun (k : Nat) => D.int (0 + (k : Int))) else none
  | true, [.val (.int a), .val (.int b)] => if inR a ∧ inR b then some ((List.range (b - a).toNat).map fun (k : Nat) => D.int (a + (k : Int))) else none
  | _, _ => none
noncomputable def compL (test : D → Option Bool) (elt : D → Option SV) : List D → Option (List D)
  | [] => some []
  | d :: r => (test d).bind fun b => match b with
    | true => (elt d).bind fun x => (toD x).bind fun y => (compL test elt r).map (y :: ·)
    | false => compL test elt r
noncomputable def callR (rs : List SV) (r : Option SV) : Option SV := r.bind fun x => if rs.any SV.lent && !x.plain then none else some x
noncomputable def toDs : List SV → Option (List D)
  | [] => some []
  | r :: rs => (toD r).bind fun d => (toDs rs).map (d :: ·)
mutual
noncomputable def evE (fn : Nat → List D → Option SV) : E → Env → Option SV
  | .int i, _ => some (.val (.int i))
  | .bl b, _ => some (.val (.bl b))
  | .non, _ => some (.val .non)
  | .str x, _ => some (.val (.str x))
  | .var i, ρ => look ρ i
  | .prim p es, ρ => (evEs fn es ρ).bind fun rs => primD p (rs.map seeD)
  | .tup es, ρ => (evEs fn es ρ).bind fun rs => (toDs rs).map fun ds => .val (.tup ds)
  | .lst es, ρ => (evEs fn es ρ).bind fun rs => (toDs rs).map fun ds => SV.obj true (.lst ds)
  | .and a b, ρ => (evE fn a ρ).bind fun r => match r with
    | .val (.bl true) => evE fn b ρ
    | .val (.bl false) => some (.val (.bl false))
    | _ => none
  | .or a b, ρ => (evE fn a ρ).bind fun r => match r with
    | .val (.bl true) => some (.val (.bl true))
    | .val (.bl false) => evE fn b ρ
    | _ => none
  | .not a, ρ => (evE fn a ρ).bind fun r => match r with
    | .val (.bl b) => some (.val (.bl (!b)))
    | _ => none
  | .chain p q a b c, ρ => (evE fn a ρ).bind fun x => (evE fn b ρ).bind fun y => (primD p [seeD x, seeD y]).bind fun z => match z with
    | .val (.bl true) => (evE fn c ρ).bind fun w => primD q [seeD y, seeD w]
    | .val (.bl false) => some (.val (.bl false))
    | _ => none
  | .ite c a b, ρ => (evT fn c ρ).bind fun k => if k then evE fn a ρ else evE fn b ρ
  | .call f es, ρ => (evEs fn es ρ).bind fun rs => callR rs (fn f (rs.map seeD))
  | .dnew t, _ => some (.obj true (.dct t [] []))
  | .done t k v, ρ => (evE fn k ρ).bind fun x => (evE fn v ρ).bind fun y => (toD x).bind fun a => (toD y).bind fun b => if isKey t a then some (.obj true (.dct t [a] [b])) else none
  | .comp rng src cond elt, ρ => (evEs fn src ρ).bind fun rs => (itemsOf rng rs).bind fun ds =>
    if ds.length ≤ line then (compL (fun d => evT fn cond (some (.val d) :: ρ)) (fun d => evE fn elt (some (.val d) :: ρ)) ds).map fun l => SV.obj true (.lst l) else none
noncomputable def evEs (fn : Nat → List D → Option SV) : Es → Env → Option (List SV)
  | .nil, _ => some []
  | .cons e es, ρ => (evE fn e ρ).bind fun r => (evEs fn es ρ).map (r :: ·)
noncomputable def evT (fn : Nat → List D → Option SV) : E → Env → Option Bool
  | .and a b, ρ => (evT fn a ρ).bind fun k => if k then evT fn b ρ else some false
  | .or a b, ρ => (evT fn a ρ).bind fun k => if k then some true else evT fn b ρ
  | .not a, ρ => (evT fn a ρ).map (!·)
  | .int i, _ => some (i != 0)
  | .bl b, _ => some b
  | .non, _ => some false
  | .str _, _ => none
  | .var i, ρ => (look ρ i).bind truth
  | .prim p es, ρ => (evEs fn es ρ).bind fun rs => (primD p (rs.map seeD)).bind truth
  | .tup _, _ => none
  | .lst _, _ => none
  | .chain p q a b c, ρ => (evE fn a ρ).bind fun x => (evE fn b ρ).bind fun y => (primD p [seeD x, seeD y]).bind fun z => match z with
    | .val (.bl true) => (evE fn c ρ).bind fun w => (primD q [seeD y, seeD w]).bind truth
    | .val (.bl false) => some false
    | _ => none
  | .ite _ _ _, _ => none
  | .call f es, ρ => (evEs fn es ρ).bind fun rs => (callR rs (fn f (rs.map seeD))).bind truth
  | .comp rng src cond elt, ρ => (evEs fn src ρ).bind fun rs => (itemsOf rng rs).bind fun ds =>
    if ds.length ≤ line then (compL (fun d => evT fn cond (some (.val d) :: ρ)) (fun d => evE fn elt (some (.val d) :: ρ)) ds).map fun l => !l.isEmpty else none
  | .dnew _, _ => none
  | .done _ _ _, _ => none
end
inductive Ans where
  | ok (r : SV) (outs : List D)
  | ex (c : Nat)
noncomputable def prj (fa : Nat → List D → Option Ans) (f : Nat) (ds : List D) : Option SV := match fa f ds with
  | some (.ok r []) => some r
  | _ => none
inductive MA where
  | nil | e (c : E) (r : MA) | s (i : Nat) (r : MA) | n (t : Bool) (r : MA)
inductive AV where
  | e (d : D) | l (ds : List D) | s (i : Nat) (d : D) | n (t : Bool)
inductive M where
  | call (f : Nat) (ma : MA)
  | op (p : Prim) (a : E) (m : M)
noncomputable def isDct : D → Bool
  | .dct _ _ vs => plains vs
  | _ => false
noncomputable def SV.fine : SV → Bool
  | .val d => LW.plain d
  | .obj true d => plainO d
  | _ => false
noncomputable def avOf : SV → Option AV
  | .val (.lst ds) => if plains ds then some (.l ds) else none
  | .val d => if plain d then some (.e d) else none
  | .obj _ (.lst ds) => if plains ds then some (.l ds) else none
  | _ => none
noncomputable def cellAtS (ρ : Env) (i : Nat) : Option D := match ρ[i]? with
  | some (some x) => x.cell
  | _ => none
noncomputable def evMA (fn : Nat → List D → Option SV) : MA → Env → Option (List AV)
  | .nil, _ => some []
  | .e c r, ρ => (evE fn c ρ).bind fun x => (avOf x).bind fun a => (evMA fn r ρ).map (a :: ·)
  | .s i r, ρ => (cellAtS ρ i).bind fun d => if isDct d then (evMA fn r ρ).map (.s i d :: ·) else none
  | .n t r, ρ => (evMA fn r ρ).map (.n t :: ·)
noncomputable def seeA : AV → D
  | .e d => d
  | .l ds => .lst ds
  | .s _ d => d
  | .n t => .dct t [] []
noncomputable def putS (ρ : Env) (i : Nat) (d : D) : Env := match ρ[i]? with
  | some (some x) => ρ.set i (some (x.put d))
  | _ => ρ
noncomputable def putO (ρ : Env) : List AV → List D → Option Env
  | [], [] => some ρ
  | .s i _ :: r, d :: ds => putO (putS ρ i d) r ds
  | .n _ :: r, _ :: ds => putO ρ r ds
  | .e _ :: r, ds => putO ρ r ds
  | .l _ :: r, ds => putO ρ r ds
  | _, _ => none
noncomputable def evM (fa : Nat → List D → Option Ans) : M → Env → Option (SV × Env)
  | .call f ma, ρ => (evMA (prj fa) ma ρ).bind fun xs => (fa f (xs.map seeA)).bind fun a => match a with
    | .ok r outs => if r.fine && outs.all plainO then (putO ρ xs outs).map fun ρ' => (r, ρ') else none
    | .ex _ => none
  | .op p a m, ρ => (evE (prj fa) a ρ).bind fun x => match x with
    | .val d => if plain d then (evM fa m ρ).bind fun y => (primD p [d, seeD y.1]).map fun z => (z, y.2) else none
    | _ => none
mutual
inductive S where
  | expr (e : E) | asg (i : Nat) (e : E) | mov (i j : Nat) | app (i : Nat) (e : E) | dset (i : Nat) (k v : E) | dupd (i j : Nat) | unp3 (i j k : Nat) (e : E) | exprM (m : M) | asgM (i : Nat) (m : M) | ifO (c : E) (m : M) (a b : Ss) | ret (e : E) | retV (i : Nat) | retN
  | ifs (c : E) (a b : Ss) | for_ (i : Nat) (rng : Bool) (src : Es) (body : Ss) | forV (i j : Nat) (body : Ss) | forU (i j : Nat) (rng : Bool) (src : Es) (body : Ss) | forE (i j : Nat) (src : E) (body : Ss) | while_ (c : E) (body : Ss) | frz (js : List Nat) (s : S) | brk | cnt | pass | stop
inductive Ss where
  | nil | cons (s : S) (ss : Ss)
end
inductive Fl where
  | nx | br | ct | rt (r : SV)
noncomputable def forL (i : Nat) (body : Env → Option (Fl × Env)) : List D → Env → Option (Fl × Env)
  | [], ρ => some (.nx, ρ)
  | d :: r, ρ => (body (ρ.set i (some (.val d)))).bind fun x => match x.1 with
    | .nx => forL i body r x.2
    | .ct => forL i body r x.2
    | .br => some (.nx, x.2)
    | .rt v => some (.rt v, x.2)
noncomputable def small8 : D → Bool
  | .tup [.int a, .int b] => decide (0 ≤ a ∧ a ≤ 7 ∧ 0 ≤ b ∧ b ≤ 7)
  | _ => false
noncomputable def dmerge (ks vs : List D) : List D → List D → List D × List D
  | k :: ks2, v :: vs2 => match dput true ks vs k v with
    | .dct _ a b => dmerge a b ks2 vs2
    | _ => (ks, vs)
  | _, _ => (ks, vs)
noncomputable def dupdV (ρ : Env) (i : Nat) (x : SV) : Option D → Option D → Option (Fl × Env)
  | some (.dct true ks vs), some (.dct true ks2 vs2) => if ks2.all small8 && decide (ks.length + ks2.length < line) then some (.nx, ρ.set i (some (x.put (.dct true (dmerge ks vs ks2 vs2).1 (dmerge ks vs ks2 vs2).2)))) else none
  | _, _ => none
noncomputable def dupdD (ρ : Env) (i j : Nat) : Option (Fl × Env) := if i = j then none else match ρ[i]? with
  | some (some x) => dupdV ρ i x x.cell (cellAtS ρ j)
  | _ => none
noncomputable def unp3D (ρ : Env) (i j k : Nat) : SV → Option (Fl × Env)
  | .obj true (.lst [a, b, c]) => if free ρ i && free ρ j && free ρ k then some (.nx, ((ρ.set i (some (.val a))).set j (some (.val b))).set k (some (.val c))) else none
  | _ => none
noncomputable def pairsD : Nat → List D → List D
  | _, [] => []
  | k, d :: r => .tup [.int k, d] :: pairsD (k + 1) r
noncomputable def enumD : SV → Option (List D)
  | .obj true (.lst l) => some (pairsD 0 l)
  | .val (.str x) => some (pairsD 0 (signsD x))
  | _ => none
noncomputable def forLU (i j : Nat) (body : Env → Option (Fl × Env)) : List D → Env → Option (Fl × Env)
  | [], ρ => some (.nx, ρ)
  | .tup [a, b] :: r, ρ => (body ((ρ.set i (some (.val a))).set j (some (.val b)))).bind fun x => match x.1 with
    | .nx => forLU i j body r x.2
    | .ct => forLU i j body r x.2
    | .br => some (.nx, x.2)
    | .rt v => some (.rt v, x.2)
  | _, _ => none
noncomputable def whileL (test : Env → Option Bool) (body : Env → Option (Fl × Env)) : Nat → Env → Option (Fl × Env)
  | 0, _ => none
  | n + 1, ρ => (test ρ).bind fun b => if b then (body ρ).bind fun x => (match x.1 with
    | .nx => whileL test body n x.2
    | .ct => whileL test body n x.2
    | .br => some (.nx, x.2)
    | .rt v => some (.rt v, x.2)) else some (.nx, ρ)
noncomputable def freeze (ρ : Env) (j : Nat) : Option (List D × Env) := match ρ[j]? with
  | some (some (.val d)) => (seqOf d).map fun l => (l, ρ)
  | some (some (.obj _ (.lst ds))) => some (ds, ρ.set j (some (.val (.lst ds))))
  | _ => none
noncomputable def frz1 (ρ : Env) (j : Nat) : Env := match ρ[j]? with
  | some (some (.obj true d)) => ρ.set j (some (.val d))
  | _ => ρ
mutual
noncomputable def exS (fa : Nat → List D → Option Ans) (fuel : Nat) : S → Env → Option (Fl × Env)
  | .expr e, ρ => (evE (prj fa) e ρ).map fun _ => (.nx, ρ)
  | .asg i e, ρ => (evE (prj fa) e ρ).bind fun r => if r.lent || !free ρ i then none else some (.nx, ρ.set i (some r))
  | .mov i j, ρ => if free ρ i then (match ρ[j]? with
    | some (some (.val d)) => some (.nx, ρ.set i (some (.val d)))
    | some (some (.obj _ d)) => some (.nx, (ρ.set j (some (.val d))).set i (some (.val d)))
    | _ => none) else none
  | .app i e, ρ => match ρ[i]? with
    | some (some x) => (match x.cell with
      | some (.lst ds) => (evE (prj fa) e ρ).bind fun r => (toD r).bind fun d => if ds.length < line then some (.nx, ρ.set i (some (x.put (.lst (ds ++ [d]))))) else none
      | _ => none)
    | _ => none
  | .dupd i j, ρ => dupdD ρ i j
  | .unp3 i j k e, ρ => (evE (prj fa) e ρ).bind (unp3D ρ i j k)
  | .dset i k v, ρ => match ρ[i]? with
    | some (some x) => (match x.cell with
      | some (.dct t ks vs) => (evE (prj fa) v ρ).bind fun r => (toD r).bind fun d => (evE (prj fa) k ρ).bind fun r => (toD r).bind fun a => if isKey t a && decide (ks.length < line) then some (.nx, ρ.set i (some (x.put (dput t ks vs a d)))) else none
      | _ => none)
    | _ => none
  | .exprM m, ρ => (evM fa m ρ).map fun x => (.nx, x.2)
  | .asgM i m, ρ => (evM fa m ρ).bind fun x => if x.1.lent || !free x.2 i then none else some (.nx, x.2.set i (some (.val (seeD x.1))))
  | .ifO c m a b, ρ => (evT (prj fa) c ρ).bind fun k => if k then exSs fa fuel a ρ else (evM fa m ρ).bind fun x => (truth x.1).bind fun k => if k then exSs fa fuel a x.2 else exSs fa fuel b x.2
  | .ret e, ρ => (evE (prj fa) e ρ).bind fun r => if r.lent then none else some (.rt r, ρ)
  | .retV i, ρ => match ρ[i]? with
    | some (some (.val d)) => some (.rt (.val d), ρ)
    | some (some (.obj _ d)) => some (.rt (.obj true d), ρ.set i none)
    | _ => none
  | .retN, ρ => some (.rt (.val .non), ρ)
  | .ifs c a b, ρ => (evT (prj fa) c ρ).bind fun k => if k then exSs fa fuel a ρ else exSs fa fuel b ρ
  | .for_ i rng src body, ρ => (evEs (prj fa) src ρ).bind fun rs => if rs.any SV.lent || !free ρ i then none else (itemsOf rng rs).bind fun ds => forL i (exSs fa fuel body) ds ρ
  | .forV i j body, ρ => if free ρ i then (freeze ρ j).bind fun x => forL i (exSs fa fuel body) x.1 x.2 else none
  | .forU i j rng src body, ρ => (evEs (prj fa) src ρ).bind fun rs => if rs.any SV.lent || !free ρ i || !free ρ j then none else (itemsOf rng rs).bind fun ds => forLU i j (exSs fa fuel body) ds ρ
  | .forE i j src body, ρ => (evE (prj fa) src ρ).bind fun r => if !free ρ i || !free ρ j then none else (enumD r).bind fun ds => forLU i j (exSs fa fuel body) ds ρ
  | .while_ c body, ρ => whileL (evT (prj fa) c) (exSs fa fuel body) fuel ρ
  | .frz js s, ρ => exS fa fuel s (js.foldl frz1 ρ)
  | .brk, ρ => some (.br, ρ)
  | .cnt, ρ => some (.ct, ρ)
  | .pass, ρ => some (.nx, ρ)
  | .stop, _ => none
noncomputable def exSs (fa : Nat → List D → Option Ans) (fuel : Nat) : Ss → Env → Option (Fl × Env)
  | .nil, ρ => some (.nx, ρ)
  | .cons s ss, ρ => (exS fa fuel s ρ).bind fun x => match x.1 with
    | .nx => exSs fa fuel ss x.2
    | _ => some x
end
inductive Hd where
  | ret (ks : List Nat) | two (i : Nat) (ks ks2 : List Nat)
mutual
inductive T where
  | pl (s : S) | raise (c : Nat) | callX (i : Nat) (es : Es) | retX (i : Nat) (es : Es) | asgX (k i : Nat) (es : Es) | ifX (neg : Bool) (i : Nat) (es : Es) (a b : Ts) | ifs (c : E) (a b : Ts) | tryX (b : Ts) (k : Nat) (cs : List Nat) (h : Hd) | stuck
inductive Ts where
  | nil | cons (t : T) (ts : Ts)
end
inductive FlX where
  | fl (f : Fl) | ex (c : Nat)
noncomputable def subC (c k : Nat) : Bool := k == c || k == 0 || k == 7
noncomputable def ansX (fa : Nat → List D → Option Ans) (i : Nat) (es : Es) (ρ : Env) : Option Ans := (evEs (prj fa) es ρ).bind fun rs => if rs.any SV.lent then none else fa i (rs.map seeD)
noncomputable def hdX (c : Nat) (ρ : Env) : Hd → Option (FlX × Env)
  | .ret ks => if ks.all (subC c) then some (.fl (.rt (.obj true (.lst (ks.map fun _ => .bl true)))), ρ) else none
  | .two _ _ _ => none
mutual
noncomputable def exT (fa : Nat → List D → Option Ans) (fuel : Nat) : T → Env → Option (FlX × Env)
  | .pl s, ρ => (exS fa fuel s ρ).map fun x => (.fl x.1, x.2)
  | .raise c, ρ => some (.ex c, ρ)
  | .callX i es, ρ => (ansX fa i es ρ).bind fun a => match a with
    | .ok _ [] => some (.fl .nx, ρ)
    | .ex c => some (.ex c, ρ)
    | _ => none
  | .retX i es, ρ => (ansX fa i es ρ).bind fun a => match a with
    | .ok r [] => if r.lent then none else some (.fl (.rt r), ρ)
    | .ex c => some (.ex c, ρ)
    | _ => none
  | .asgX k i es, ρ => (ansX fa i es ρ).bind fun a => match a with
    | .ok r [] => if r.lent || !free ρ k then none else some (.fl .nx, ρ.set k (some r))
    | .ex c => some (.ex c, ρ)
    | _ => none
  | .ifX neg i es a b, ρ => (ansX fa i es ρ).bind fun x => match x with
    | .ok (.val (.bl k)) [] => if k != neg then exTs fa fuel a ρ else exTs fa fuel b ρ
    | .ex c => some (.ex c, ρ)
    | _ => none
  | .ifs c a b, ρ => (evT (prj fa) c ρ).bind fun k => if k then exTs fa fuel a ρ else exTs fa fuel b ρ
  | .tryX b k cs h, ρ => (exTs fa fuel b ρ).bind fun x => match x.1 with
    | .fl _ => some x
    | .ex c => if cs.contains c then hdX c x.2 h else none
  | .stuck, _ => none
noncomputable def exTs (fa : Nat → List D → Option Ans) (fuel : Nat) : Ts → Env → Option (FlX × Env)
  | .nil, ρ => some (.fl .nx, ρ)
  | .cons t ts, ρ => (exT fa fuel t ρ).bind fun x => match x.1 with
    | .fl .nx => exTs fa fuel ts x.2
    | _ => some x
end
structure Fn where
  np : Nat
  nl : Nat
  body : Ss
  io : List Nat := []
  xb : Option Ts := none
noncomputable def endX : Option (FlX × Env) → Option Ans
  | some (.fl (.rt r), _) => some (.ok r [])
  | some (.fl .nx, _) => some (.ok (.val .non) [])
  | some (.ex c, _) => some (.ex c)
  | _ => none
noncomputable def outsOf (ρ : Env) : List Nat → Option (List D)
  | [] => some []
  | i :: r => match ρ[i]? with
    | some (some (.io d)) => (outsOf ρ r).map (d :: ·)
    | _ => none
noncomputable def endA (io : List Nat) : Option (Fl × Env) → Option Ans
  | some (.rt r, ρ) => (outsOf ρ io).map (Ans.ok r)
  | some (.nx, ρ) => (outsOf ρ io).map (Ans.ok (.val .non))
  | _ => none
noncomputable def args0 (io : List Nat) : Nat → List D → Env
  | _, [] => []
  | k, d :: r => some (if io.contains k then .io d else .val d) :: args0 io (k + 1) r
noncomputable def callA (P : Nat → Option Fn) (fuel : Nat) : Nat → Nat → List D → Option Ans
  | 0, _, _ => none
  | n + 1, f, ds => (P f).bind fun F => if ds.length = F.np then (match F.xb with
    | none => endA F.io (exSs (callA P fuel n) fuel F.body (args0 F.io 0 ds ++ List.replicate (F.nl - F.np) none))
    | some t => endX (exTs (callA P fuel n) fuel t (args0 [] 0 ds ++ List.replicate (F.nl - F.np) none))) else none
noncomputable def callN (P : Nat → Option Fn) (fuel n : Nat) : Nat → List D → Option SV := prj (callA P fuel n)
end L2.LW
set_option linter.all false
set_option maxHeartbeats 4000000
namespace L2.LW
open PySem PySem.Spec PyProof.Rows
noncomputable def KLst (K : PySem.W.Frag) (a : Addr) (xs : List V) : Prop :=
  ∃ (o : Obj) (its : Array Value) (n : Nat), K.lookup a = some o ∧ o.cls = .type "list" ∧ o.dict = Option.none ∧ o.data = .seq its n ∧ its.size ≤ sizeLine ∧ Vals xs its.toList
noncomputable def dKof (ns : List Int) (ys : List V) : List (Key × V) := (ns.map Sum.inl).zip ys
noncomputable def dTof (ns : List (List Int)) (ys : List V) : List (List Key × V) := (ns.map fun l => l.map Sum.inl).zip ys
noncomputable def kT (l : List Int) : D := .tup (l.map D.int)
mutual
inductive Rep (K : PySem.W.Frag) (W : Addr → Prop) (H : Hp) : D → V → Prop where
  | int (i : Int) : Rep K W H (.int i) (.int i)
  | bl (b : Bool) : Rep K W H (.bl b) (.bl b)
  | non : Rep K W H .non .non
  | str (x : Str) : Rep K W H (.str x) (.str x)
  | tup {a : Addr} {xs : List V} {ds : List D} (h : H a = some (.tup xs)) (r : Reps K W H ds xs) : Rep K W H (.tup ds) (.ref a)
  | lst {a : Addr} {xs : List V} {ds : List D} (h : (¬ W a ∧ Rd H a (.lst xs)) ∨ KLst K a xs) (r : Reps K W H ds xs) : Rep K W H (.lst ds) (.ref a)
  | dK {a : Addr} {ns : List Int} {ys : List V} {vs : List D} (n : ¬ W a) (h : H a = some (.dK (dKof ns ys))) (l : ns.length = ys.length) (r : Reps K W H vs ys) : Rep K W H (.dct false (ns.map D.int) vs) (.ref a)
  | dT {a : Addr} {ns : List (List Int)} {ys : List V} {vs : List D} (n : ¬ W a) (h : H a = some (.dT (dTof ns ys))) (l : ns.length = ys.length) (r : Reps K W H vs ys) : Rep K W H (.dct true (ns.map kT) vs) (.ref a)
inductive Reps (K : PySem.W.Frag) (W : Addr → Prop) (H : Hp) : List D → List V → Prop where
  | nil : Reps K W H [] []
  | cons {d : D} {v : V} {ds : List D} {vs : List V} (h : Rep K W H d v) (t : Reps K W H ds vs) : Reps K W H (d :: ds) (v :: vs)
end
inductive ORep (K : PySem.W.Frag) (W : Addr → Prop) (H : Hp) : D → HO → Prop where
  | lst {xs : List V} {ds : List D} (r : Reps K W H ds xs) : ORep K W H (.lst ds) (.lst xs)
  | dK {ns : List Int} {ys : List V} {vs : List D} (l : ns.length = ys.length) (r : Reps K W H vs ys) : ORep K W H (.dct false (ns.map D.int) vs) (.dK (dKof ns ys))
  | dT {ns : List (List Int)} {ys : List V} {vs : List D} (l : ns.length = ys.length) (r : Reps K W H vs ys) : ORep K W H (.dct true (ns.map kT) vs) (.dT (dTof ns ys))
structure Ext (W : Addr → Prop) (H : Hp) (W' : Addr → Prop) (H' : Hp) : Prop where
  keep : ∀ a o, H a = some o → ¬ W a → H' a = some o
  tup : ∀ a xs, H a = some (.tup xs) → H' a = some (.tup xs)
  frz : ∀ a o u, H a = some (.frz o u) → H' a = some (.frz o u)
  win : ∀ a, W' a → W a ∨ H a = Option.none
theorem Ext.refl (W : Addr → Prop) (H : Hp) : Ext W H W H := ⟨fun _ _ h _ => h, fun _ _ h => h, fun _ _ _ h => h, fun _ h => .inl h⟩
theorem Ext.out {W W' : Addr → Prop} {H H' : Hp} (x : Ext W H W' H') {a : Addr} {o : HO} (h : H a = some o) (n : ¬ W a) : ¬ W' a := fun w => by
  rcases x.win a w with q | q
  · exact n q
  · rw [h] at q; cases q
theorem Ext.trans {W W1 W2 : Addr → Prop} {H H1 H2 : Hp} (x : Ext W H W1 H1) (y : Ext W1 H1 W2 H2) : Ext W H W2 H2 := by
  refine ⟨fun a o h n => y.keep a o (x.keep a o h n) (x.out h n), fun a xs h => y.tup a xs (x.tup a xs h), fun a o u h => y.frz a o u (x.frz a o u h), fun a w => ?_⟩
  rcases y.win a w with q | q
  · exact x.win a q
  · cases e : H a with
    | none => exact .inr rfl
    | some o =>
      by_cases hw : W a
      · exact .inl hw
      · rw [x.keep a o e hw] at q; cases q
theorem Ext.same {W : Addr → Prop} {H H' : Hp} (s : Same H H') : Ext W H W H' := ⟨fun a o h _ => s a o h, fun a xs h => s a _ h, fun a o u h => s a _ h, fun _ w => .inl w⟩
section
variable {K : PySem.W.Frag} {W W' : Addr → Prop} {H H' : Hp}
mutual
theorem Rep.ext (x : Ext W H W' H') : ∀ {d : D} {v : V}, Rep K W H d v → Rep K W' H' d v
  | _, _, .int i => .int i
  | _, _, .bl b => .bl b
  | _, _, .non => .non
  | _, _, .str s => .str s
  | _, _, .dK n h l r => .dK (x.out h n) (x.keep _ _ h n) l (Reps.ext x r)
  | _, _, .dT n h l r => .dT (x.out h n) (x.keep _ _ h n) l (Reps.ext x r)
  | _, _, .tup h r => .tup (x.tup _ _ h) (Reps.ext x r)
  | _, _, .lst h r => .lst (by
      rcases h with ⟨n, h | ⟨o, h⟩⟩ | h
      · exact .inl ⟨x.out h n, .inl (x.keep _ _ h n)⟩
      · exact .inl ⟨x.out h n, .inr ⟨o, x.keep _ _ h n⟩⟩
      · exact .inr h) (Reps.ext x r)
theorem Reps.ext (x : Ext W H W' H') : ∀ {ds : List D} {vs : List V}, Reps K W H ds vs → Reps K W' H' ds vs
  | _, _, .nil => .nil
  | _, _, .cons h t => .cons (Rep.ext x h) (Reps.ext x t)
end
mutual
theorem Rep.less (x : ∀ a, W' a → W a) : ∀ {d : D} {v : V}, Rep K W H d v → Rep K W' H d v
  | _, _, .int i => .int i
  | _, _, .bl b => .bl b
  | _, _, .non => .non
  | _, _, .str s => .str s
  | _, _, .dK n h l r => .dK (fun w => n (x _ w)) h l (Reps.less x r)
  | _, _, .dT n h l r => .dT (fun w => n (x _ w)) h l (Reps.less x r)
  | _, _, .tup h r => .tup h (Reps.less x r)
  | _, _, .lst h r => .lst (by
      rcases h with ⟨n, h⟩ | h
      · exact .inl ⟨fun w => n (x _ w), h⟩
      · exact .inr h) (Reps.less x r)
theorem Reps.less (x : ∀ a, W' a → W a) : ∀ {ds : List D} {vs : List V}, Reps K W H ds vs → Reps K W' H ds vs
  | _, _, .nil => .nil
  | _, _, .cons h t => .cons (Rep.less x h) (Reps.less x t)
end
mutual
theorem Rep.plain : ∀ {d : D} {v : V}, Rep K W H d v → LW.plain d = true → Rep K W' H d v
  | _, _, .int i, _ => .int i
  | _, _, .bl b, _ => .bl b
  | _, _, .non, _ => .non
  | _, _, .str s, _ => .str s
  | _, _, .tup h r, p => .tup h (Reps.plain r (by simpa [LW.plain] using p))
  | _, _, .lst h r, p => by simp [LW.plain] at p
  | _, _, .dK _ _ _ _, p => by simp [LW.plain] at p
  | _, _, .dT _ _ _ _, p => by simp [LW.plain] at p
theorem Reps.plain : ∀ {ds : List D} {vs : List V}, Reps K W H ds vs → plains ds = true → Reps K W' H ds vs
  | _, _, .nil, _ => .nil
  | _, _, .cons h t, p => by
    simp only [plains, Bool.and_eq_true] at p
    exact .cons (Rep.plain h p.1) (Reps.plain t p.2)
end
theorem Reps.length : ∀ {ds : List D} {vs : List V}, Reps K W H ds vs → ds.length = vs.length
  | _, _, .nil => rfl
  | _, _, .cons _ t => by simp [Reps.length t]
theorem Reps.get : ∀ {ds : List D} {vs : List V} {i : Nat} {d : D}, Reps K W H ds vs → ds[i]? = some d → ∃ v, vs[i]? = some v ∧ Rep K W H d v
  | _, _, _, _, .nil, e => by simp at e
  | _, _, 0, _, .cons h _, e => by simp at e; subst e; exact ⟨_, rfl, h⟩
  | _, _, i + 1, d, .cons _ t, e => by
    obtain ⟨v, h1, h2⟩ := Reps.get (i := i) (d := d) t (by simpa using e)
    exact ⟨v, by simpa using h1, h2⟩
theorem Reps.append : ∀ {ds es : List D} {vs us : List V}, Reps K W H ds vs → Reps K W H es us → Reps K W H (ds ++ es) (vs ++ us)
  | _, _, _, _, .nil, s => s
  | _, _, _, _, .cons h t, s => .cons h (Reps.append t s)
theorem Reps.take : ∀ {ds : List D} {vs : List V} (n : Nat), Reps K W H ds vs → Reps K W H (ds.take n) (vs.take n)
  | _, _, 0, _ => .nil
  | _, _, _ + 1, .nil => .nil
  | _, _, n + 1, .cons h t => .cons h (Reps.take n t)
theorem Reps.drop : ∀ {ds : List D} {vs : List V} (n : Nat), Reps K W H ds vs → Reps K W H (ds.drop n) (vs.drop n)
  | _, _, 0, r => r
  | _, _, _ + 1, .nil => .nil
  | _, _, n + 1, .cons _ t => Reps.drop n t
theorem Reps.ints : ∀ (ns : List Int), Reps K W H (ns.map D.int) (ns.map V.int)
  | [] => .nil
  | i :: r => .cons (.int i) (Reps.ints r)
theorem Reps.ofInts : ∀ {ds : List D} {vs : List V} {ns : List Int}, Reps K W H ds vs → ints? ds = some ns → vs = ns.map V.int
  | _, _, ns, .nil, e => by simp [ints?] at e; subst e; rfl
  | _, _, ns, .cons (d := d) h t, e => by
    cases h with
    | int i =>
      simp only [ints?, Option.map_eq_some_iff] at e
      obtain ⟨ms, e1, rfl⟩ := e
      rw [Reps.ofInts t e1]; rfl
    | _ => simp [ints?] at e
theorem ORep.ext {d : D} {o : HO} (h : ORep K W H d o) (x : Ext W H W' H') : ORep K W' H' d o := by
  cases h with
  | lst r => exact .lst (r.ext x)
  | dK l r => exact .dK l (r.ext x)
  | dT l r => exact .dT l (r.ext x)
theorem ORep.less {d : D} {o : HO} (h : ORep K W H d o) (x : ∀ a, W' a → W a) : ORep K W' H d o := by
  cases h with
  | lst r => exact .lst (r.less x)
  | dK l r => exact .dK l (r.less x)
  | dT l r => exact .dT l (r.less x)
theorem ORep.plain {d : D} {o : HO} (h : ORep K W H d o) (p : plainO d = true) : ORep K W' H d o := by
  cases h with
  | lst r => exact .lst (r.plain p)
  | dK l r => exact .dK l (r.plain p)
  | dT l r => exact .dT l (r.plain p)
theorem ORep.rep {d : D} {o : HO} {a : Addr} (h : ORep K W H d o) (n : ¬ W a) (e : H a = some o) : Rep K W H d (.ref a) := by
  cases h with
  | lst r => exact .lst (.inl ⟨n, .inl e⟩) r
  | dK l r => exact .dK n e l r
  | dT l r => exact .dT n e l r
theorem ORep.kind {d : D} {o : HO} (h : ORep K W H d o) : (∀ xs, o ≠ .tup xs) ∧ (∀ b u, o ≠ .frz b u) := by
  cases h <;> exact ⟨fun _ z => (nomatch z), fun _ _ z => (nomatch z)⟩
noncomputable def add (W : Addr → Prop) (a : Addr) : Addr → Prop := fun b => W b ∨ b = a
inductive Frz (K : PySem.W.Frag) (W : Addr → Prop) (H : Hp) : SV → V → Prop where
  | val {d : D} {v : V} (h : Rep K W H d v) : Frz K W H (.val d) v
  | lis {d : D} {a : Addr} {o : HO} (h : ¬ W a) (e : H a = some o) (r : ORep K W H d o) : Frz K W H (.obj true d) (.ref a)
  | see {d : D} {a : Addr} {o : HO} (h : W a) (e : H a = some o) (r : ORep K W H d o) : Frz K W H (.obj false d) (.ref a)
inductive Res (K : PySem.W.Frag) (W : Addr → Prop) (H H' : Hp) : SV → V → Prop where
  | val {d : D} {v : V} (h : Rep K W H' d v) : Res K W H H' (.val d) v
  | new {d : D} {a : Addr} {o : HO} (h : H a = Option.none) (e : H' a = some o) (r : ORep K (add W a) H' d o) : Res K W H H' (.obj true d) (.ref a)
  | see {d : D} {a : Addr} {o : HO} (h : W a) (e : H' a = some o) (r : ORep K W H' d o) : Res K W H H' (.obj false d) (.ref a)
noncomputable def Wf (W : Addr → Prop) (H : Hp) : Prop := ∀ a, W a → H a ≠ Option.none
theorem Res.frz {r : SV} {v : V} (h : Res K W H H' r v) (wf : Wf W H) : Frz K W H' r v := by
  cases h with
  | val h => exact .val h
  | new h e r => exact .lis (fun w => wf _ w h) e (r.less fun b w => .inl w)
  | see h e r => exact .see h e r
theorem Frz.same {r : SV} {v : V} (h : Frz K W H r v) (s : Same H H') : Frz K W H' r v := by
  cases h with
  | val h => exact .val (h.ext (.same s))
  | lis h e r => exact .lis h (s _ _ e) (r.ext (.same s))
  | see h e r => exact .see h (s _ _ e) (r.ext (.same s))
noncomputable def Sees (K : PySem.W.Frag) (W : Addr → Prop) (H : Hp) (d : D) (v : V) : Prop :=
  Rep K W H d v ∨ ∃ a o, v = .ref a ∧ H a = some o ∧ ORep K W H d o
theorem Frz.sees {r : SV} {v : V} (h : Frz K W H r v) : Sees K W H (seeD r) v := by
  cases h with
  | val h => exact .inl h
  | lis h e r => exact .inr ⟨_, _, rfl, e, r⟩
  | see h e r => exact .inr ⟨_, _, rfl, e, r⟩
theorem Sees.lst {ds : List D} {v : V} (h : Sees K W H (.lst ds) v) : ∃ a xs, v = .ref a ∧ SqL K H a xs ∧ Reps K W H ds xs := by
  rcases h with h | ⟨a, o, rfl, e, r⟩
  · cases h with
    | lst h r =>
      rcases h with ⟨_, h⟩ | h
      · exact ⟨_, _, rfl, .inl h, r⟩
      · exact ⟨_, _, rfl, .inr h, r⟩
  · cases r with
    | lst r => exact ⟨_, _, rfl, .of e, r⟩
theorem Sees.tupH {ds : List D} {v : V} (h : Sees K W H (.tup ds) v) : ∃ a xs, v = .ref a ∧ H a = some (.tup xs) ∧ Reps K W H ds xs := by
  rcases h with h | ⟨a, o, rfl, e, r⟩
  · cases h with
    | tup h r => exact ⟨_, _, rfl, h, r⟩
  · cases r
theorem Sees.tup {ds : List D} {v : V} (h : Sees K W H (.tup ds) v) : ∃ a xs, v = .ref a ∧ SqT K H a xs ∧ Reps K W H ds xs := by
  obtain ⟨a, xs, e, h, r⟩ := h.tupH
  exact ⟨a, xs, e, .of h, r⟩
theorem Sees.dK {ks vs : List D} {v : V} (h : Sees K W H (.dct false ks vs) v) : ∃ a ns ys, v = .ref a ∧ ks = ns.map D.int ∧ H a = some (.dK (dKof ns ys)) ∧ ns.length = ys.length ∧ Reps K W H vs ys := by
  rcases h with h | ⟨a, o, rfl, e, r⟩
  · cases h with
    | dK n h l r => exact ⟨_, _, _, rfl, rfl, h, l, r⟩
  · cases r with
    | dK l r => exact ⟨_, _, _, rfl, rfl, e, l, r⟩
theorem Sees.dT {ks vs : List D} {v : V} (h : Sees K W H (.dct true ks vs) v) : ∃ a ns ys, v = .ref a ∧ ks = ns.map kT ∧ H a = some (.dT (dTof ns ys)) ∧ ns.length = ys.length ∧ Reps K W H vs ys := by
  rcases h with h | ⟨a, o, rfl, e, r⟩
  · cases h with
    | dT n h l r => exact ⟨_, _, _, rfl, rfl, h, l, r⟩
  · cases r with
    | dT l r => exact ⟨_, _, _, rfl, rfl, e, l, r⟩
theorem Sees.int {i : Int} {v : V} (h : Sees K W H (.int i) v) : v = .int i := by
  rcases h with h | ⟨a, o, rfl, e, r⟩
  · cases h; rfl
  · cases r
theorem Sees.bl {i : Bool} {v : V} (h : Sees K W H (.bl i) v) : v = .bl i := by
  rcases h with h | ⟨a, o, rfl, e, r⟩
  · cases h; rfl
  · cases r
theorem Sees.str {i : Str} {v : V} (h : Sees K W H (.str i) v) : v = .str i := by
  rcases h with h | ⟨a, o, rfl, e, r⟩
  · cases h; rfl
  · cases r
theorem Sees.non {v : V} (h : Sees K W H .non v) : v = .non := by
  rcases h with h | ⟨a, o, rfl, e, r⟩
  · cases h; rfl
  · cases r
theorem Frz.toD {r : SV} {v : V} {d : D} (h : Frz K W H r v) (e : LW.toD r = some d) : Rep K W H d v := by
  cases h with
  | val h => simp [LW.toD] at e; subst e; exact h
  | lis h e' r => simp [LW.toD] at e; subst e; exact r.rep h e'
  | see h e' r => simp [LW.toD] at e
noncomputable def Own (ρ : LW.Env) (σ : St) (a : Addr) : Prop := ∃ (i : Nat) (x : SV) (d : D), ρ[i]? = some (some x) ∧ x.cell = some d ∧ σ[i]? = some (some (.ref a))
structure R (K : PySem.W.Frag) (W : Addr → Prop) (ρ : LW.Env) (σ : St) (H : Hp) : Prop where
  val : ∀ (i : Nat) (d : D), ρ[i]? = some (some (.val d)) → ∃ v, σ[i]? = some (some v) ∧ Rep K W H d v
  nol : ∀ (i : Nat) (d : D), ρ[i]? ≠ some (some (.obj false d))
  own : ∀ (i : Nat) (x : SV) (d : D), ρ[i]? = some (some x) → x.cell = some d → ∃ a o, σ[i]? = some (some (.ref a)) ∧ W a ∧ H a = some o ∧ ORep K W H d o
  inj : ∀ (i j : Nat) (x y : SV) (d e : D) (a : Addr), ρ[i]? = some (some x) → ρ[j]? = some (some y) → x.cell = some d → y.cell = some e → σ[i]? = some (some (.ref a)) → σ[j]? = some (some (.ref a)) → i = j
  wf : Wf W H
  len : ρ.length = σ.length
theorem R.ownW {ρ : LW.Env} {σ : St} (r : R K W ρ σ H) {a : Addr} (o : Own ρ σ a) : W a ∧ ∃ o d, H a = some o ∧ ORep K W H d o := by
  obtain ⟨i, x, d, h1, h2, h3⟩ := o
  obtain ⟨b, o, e, w, q, z⟩ := r.own i x d h1 h2
  rw [h3] at e; cases e
  exact ⟨w, o, d, q, z⟩
theorem R.same {ρ : LW.Env} {σ : St} (r : R K W ρ σ H) (s : Same H H') : R K W ρ σ H' := by
  refine ⟨fun i d h => ?_, r.nol, fun i x d h h' => ?_, r.inj, fun a w => ?_, r.len⟩
  · obtain ⟨v, h1, h2⟩ := r.val i d h
    exact ⟨v, h1, h2.ext (.same s)⟩
  · obtain ⟨a, o, h1, h2, h3, h4⟩ := r.own i x d h h'
    exact ⟨a, o, h1, h2, s _ _ h3, h4.ext (.same s)⟩
  · cases e : H a with
    | none => exact absurd e (r.wf a w)
    | some o => rw [s a o e]; exact fun z => nomatch z
theorem R.look {ρ : LW.Env} {σ : St} (r : R K W ρ σ H) {i : Nat} {x : SV} (h : look ρ i = some x) : ∃ v, σ[i]? = some (some v) ∧ Frz K W H x v ∧ Res K W H H x v := by
  unfold LW.look at h
  split at h
  · rename_i d e
    cases h
    obtain ⟨v, h1, h2⟩ := r.val i d e
    exact ⟨v, h1, .val h2, .val h2⟩
  · rename_i o d e
    cases h
    cases o with
    | false => exact absurd e (r.nol i d)
    | true =>
      obtain ⟨a, o, h1, h2, h3, h4⟩ := r.own i _ d e rfl
      exact ⟨_, h1, .see h2 h3 h4, .see h2 h3 h4⟩
  · rename_i d e
    cases h
    obtain ⟨a, o, h1, h2, h3, h4⟩ := r.own i _ d e rfl
    exact ⟨_, h1, .see h2 h3 h4, .see h2 h3 h4⟩
  · cases h
noncomputable def isIo (ρ : LW.Env) (i : Nat) : Prop := ∃ d, ρ[i]? = some (some (.io d))
theorem free_io {ρ : LW.Env} {i : Nat} (h : LW.free ρ i = true) : ¬ isIo ρ i := fun ⟨d, e⟩ => by
  unfold LW.free at h; rw [e] at h; cases h
structure SPost (K : PySem.W.Frag) (W : Addr → Prop) (ρ : LW.Env) (σ : St) (H : Hp) (W' : Addr → Prop) (ρ' : LW.Env) (σ' : St) (H' : Hp) : Prop where
  r : R K W' ρ' σ' H'
  keep : ∀ a o, H a = some o → ¬ Own ρ σ a → H' a = some o
  win : ∀ a, W' a → W a ∨ H a = Option.none
  wout : ∀ a, W a → ¬ Own ρ σ a → W' a ∧ ¬ Own ρ' σ' a
  io : ∀ i, (isIo ρ' i ↔ isIo ρ i) ∧ (isIo ρ i → σ'[i]? = σ[i]?)
theorem SPost.trans {W1 W2 : Addr → Prop} {ρ ρ1 ρ2 : LW.Env} {σ σ1 σ2 : St} {H1 H2 : Hp} (x : SPost K W ρ σ H W1 ρ1 σ1 H1) (y : SPost K W1 ρ1 σ1 H1 W2 ρ2 σ2 H2) (r0 : R K W ρ σ H) : SPost K W ρ σ H W2 ρ2 σ2 H2 := by
  have no1 : ∀ a o, H a = some o → ¬ Own ρ σ a → ¬ Own ρ1 σ1 a := fun a o h n z => by
    rcases x.win a (x.r.ownW z).1 with w | w
    · exact (x.wout a w n).2 z
    · rw [h] at w; cases w
  refine ⟨y.r, fun a o h n => y.keep a o (x.keep a o h n) (no1 a o h n), fun a w => ?_, fun a w n => ?_, fun i => ⟨(y.io i).1.trans (x.io i).1, fun z => ((y.io i).2 ((x.io i).1.mpr z)).trans ((x.io i).2 z)⟩⟩
  · rcases y.win a w with q | q
    · exact x.win a q
    · cases e : H a with
      | none => exact .inr rfl
      | some o =>
        by_cases n : Own ρ σ a
        · exact .inl (r0.ownW n).1
        · rw [x.keep a o e n] at q; cases q
  · obtain ⟨w1, n1⟩ := x.wout a w n
    exact y.wout a w1 n1
theorem SPost.ext {W1 : Addr → Prop} {ρ ρ1 : LW.Env} {σ σ1 : St} {H1 : Hp} (x : SPost K W ρ σ H W1 ρ1 σ1 H1) (r0 : R K W ρ σ H) : Ext W H W1 H1 := by
  refine ⟨fun a o h n => x.keep a o h fun z => n (r0.ownW z).1, fun a xs h => x.keep a _ h fun z => ?_, fun a o u h => x.keep a _ h fun z => ?_, x.win⟩
  · obtain ⟨_, o, d, e, q⟩ := r0.ownW z
    rw [h] at e; cases e; exact q.kind.1 xs rfl
  · obtain ⟨_, o, d, e, q⟩ := r0.ownW z
    rw [h] at e; cases e; exact q.kind.2 _ _ rfl
theorem SPost.same {ρ : LW.Env} {σ : St} (r0 : R K W ρ σ H) (s : Same H H') : SPost K W ρ σ H W ρ σ H' :=
  ⟨r0.same s, fun a o h _ => s a o h, fun a w => .inl w, fun a w n => ⟨w, n⟩, fun _ => ⟨.rfl, fun _ => rfl⟩⟩
end
noncomputable def IoAt (ρ : LW.Env) (σ : St) (a : Addr) : Prop := ∃ i, isIo ρ i ∧ σ[i]? = some (some (.ref a))
inductive Ret (K : PySem.W.Frag) (W : Addr → Prop) (ρ : LW.Env) (σ : St) (W' : Addr → Prop) (H' : Hp) : SV → V → Prop where
  | val {d : D} {v : V} (h : Rep K W' H' d v) : Ret K W ρ σ W' H' (.val d) v
  | new {d : D} {a : Addr} {o : HO} (h : W' a) (n : ¬ (W a ∧ ¬ Own ρ σ a)) (n' : ¬ IoAt ρ σ a) (e : H' a = some o) (r : ORep K W' H' d o) : Ret K W ρ σ W' H' (.obj true d) (.ref a)
noncomputable def tE (K : PySem.W.Frag) (fn : Nat → List D → Option SV) (c : E) : TE := fun σ H Q => ∃ W ρ r, R K W ρ σ H ∧ evE fn c ρ = some r ∧ ∀ v H', Same H H' → Res K W H H' r v → Q v H'
noncomputable def tV (K : PySem.W.Frag) (fn : Nat → List D → Option SV) (c : E) : TE := fun σ H Q => ∃ W ρ r, R K W ρ σ H ∧ evE fn c ρ = some r ∧ ∀ v H', Same H H' → Frz K W H' r v → Q v H'
noncomputable def tVs (K : PySem.W.Frag) (fn : Nat → List D → Option SV) (cs : Es) : TA := fun σ H Q => ∃ W ρ rs, R K W ρ σ H ∧ evEs fn cs ρ = some rs ∧ ∀ vs H', Same H H' → Paired (Frz K W H') rs vs → Q vs H'
noncomputable def tT (K : PySem.W.Frag) (fn : Nat → List D → Option SV) (c : E) : TT := fun σ H Q => ∃ W ρ b, R K W ρ σ H ∧ evT fn c ρ = some b ∧ ∀ H', Same H H' → Q b H'
noncomputable def FlOk (K : PySem.W.Frag) (W : Addr → Prop) (ρ : LW.Env) (σ : St) (W' : Addr → Prop) (ρ' : LW.Env) (σ' : St) (H' : Hp) (D : Ends) : Fl → Prop
  | .nx => D.nx σ' H'
  | .br => D.bk σ' H'
  | .ct => D.ct σ' H'
  | .rt r => ∀ v, Ret K W ρ σ W' H' r v → D.rt v H'
noncomputable def tSs (K : PySem.W.Frag) (ex : LW.Env → Option (Fl × LW.Env)) : TS := fun D σ H => ∃ W ρ x, R K W ρ σ H ∧ ex ρ = some x ∧ ∀ W' σ' H', SPost K W ρ σ H W' x.2 σ' H' → FlOk K W ρ σ W' x.2 σ' H' D x.1
theorem _root_.L2.PE.imp {X : Cx} {e : Expr} {t t' : TE} (h : PE X e t) (i : ∀ σ H Q, t' σ H Q → t σ H Q) : PE X e t' := fun pins s σ H Q I q => h pins s σ H Q I (i σ H Q q)
theorem _root_.L2.PT.imp {X : Cx} {e : Expr} {t t' : TT} (h : PT X e t) (i : ∀ σ H Q, t' σ H Q → t σ H Q) : PT X e t' := fun pins s σ H Q I q => h pins s σ H Q I (i σ H Q q)
theorem _root_.L2.PW.imp {X : Cx} {e : Expr} {t t' : TT} (h : PW X e t) (i : ∀ σ H Q, t' σ H Q → t σ H Q) : PW X e t' := fun wh pins s σ H Q I q => h wh pins s σ H Q I (i σ H Q q)
theorem _root_.L2.PA.imp {X : Cx} {e : List Expr} {t t' : TA} (h : PA X e t) (i : ∀ σ H Q, t' σ H Q → t σ H Q) : PA X e t' := fun pos pins s σ H Q I q => h pos pins s σ H Q I (i σ H Q q)
theorem _root_.L2.PS.imp {X : Cx} {e : Stmt} {t t' : TS} (h : PS X e t) (i : ∀ D σ H, t' D σ H → t D σ H) : PS X e t' := fun pins s σ H D I q => h pins s σ H D I (i D σ H q)
theorem _root_.L2.PSs.imp {X : Cx} {e : List Stmt} {t t' : TS} (h : PSs X e t) (i : ∀ D σ H, t' D σ H → t D σ H) : PSs X e t' := fun pins s σ H D I q => h pins s σ H D I (i D σ H q)
end L2.LW
set_option linter.all false
set_option maxHeartbeats 4000000
namespace L2.LW
open PySem PySem.Spec PyProof.Rows
noncomputable def VR (K : PySem.W.Frag) (f : List D → Option SV) (vs : List V) (H : Hp) (Q : VK) : Prop :=
  ∃ W ds r, Wf W H ∧ Paired (Sees K W H) ds vs ∧ f ds = some r ∧ ∀ v H', Same H H' → Res K W H H' r v → Q v H'
noncomputable def VR2 (K : PySem.W.Frag) (f : List D → Option SV) : R2 := fun x y H Q => VR K f [x, y] H Q
noncomputable def VR1 (K : PySem.W.Frag) (f : List D → Option SV) : V → Hp → VK → Prop := fun x H Q => VR K f [x] H Q
theorem pr1 {α β : Type} {F : α → β → Prop} {ds : List α} {x : β} (h : Paired F ds [x]) : ∃ d, ds = [d] ∧ F d x := by
  cases h with
  | cons h t => cases t; exact ⟨_, rfl, h⟩
theorem pr2 {α β : Type} {F : α → β → Prop} {ds : List α} {x y : β} (h : Paired F ds [x, y]) : ∃ d e, ds = [d, e] ∧ F d x ∧ F e y := by
  cases h with
  | cons h t =>
    obtain ⟨e, rfl, h2⟩ := pr1 t
    exact ⟨_, e, rfl, h, h2⟩
mutual
noncomputable def toPy : D → PyData
  | .int i => .int i
  | .bl b => .bool b
  | .non => .none
  | .str x => .str x
  | .tup l => .tuple (toPys l)
  | .lst l => .list (toPys l)
  | .dct _ _ _ => .dict []
noncomputable def toPys : List D → List PyData
  | [] => []
  | x :: xs => toPy x :: toPys xs
end
mutual
theorem eqv_toPy : ∀ d e : D, PyData.eqv (toPy d) (toPy e) = eqD d e
  | .int a, e => by cases e <;> simp [toPy, PyData.eqv, eqD]
  | .bl a, e => by cases e <;> simp [toPy, PyData.eqv, eqD]
  | .non, e => by cases e <;> simp [toPy, PyData.eqv, eqD]
  | .str a, e => by cases e <;> simp [toPy, PyData.eqv, eqD]
  | .tup l, e => by
    cases e with
    | tup m => simp only [toPy, PyData.eqv, eqD]; exact eqvs_toPys l m
    | _ => simp [toPy, PyData.eqv, eqD]
  | .lst l, e => by
    cases e with
    | lst m => simp only [toPy, PyData.eqv, eqD]; exact eqvs_toPys l m
    | _ => simp [toPy, PyData.eqv, eqD]
  | .dct t a b, e => by cases e <;> simp [toPy, PyData.eqv, eqD]
theorem eqvs_toPys : ∀ ds es : List D, PyData.eqvAll (toPys ds) (toPys es) = eqDs ds es
  | [], [] => by simp [toPys, PyData.eqvAll, eqDs]
  | [], _ :: _ => by simp [toPys, PyData.eqvAll, eqDs]
  | _ :: _, [] => by simp [toPys, PyData.eqvAll, eqDs]
  | x :: xs, y :: ys => by simp only [toPys, PyData.eqvAll, eqDs]; rw [eqv_toPy x y, eqvs_toPys xs ys]
end
theorem lay_all {n : Nat} (ih : ∀ d, shal n d = true → (toPy d).canLay0 = true ∧ (toPy d).depth ≤ n) : ∀ l : List D, l.all (shal n) = true → PyData.canLayAll0 (toPys l) = true ∧ PyData.depthAll (toPys l) ≤ n
  | [], _ => by simp [toPys, PyData.canLayAll0, PyData.depthAll]
  | x :: xs, h => by
    simp only [List.all_cons, Bool.and_eq_true] at h
    obtain ⟨h1, h2⟩ := ih x h.1
    obtain ⟨h3, h4⟩ := lay_all ih xs h.2
    refine ⟨by simp [toPys, PyData.canLayAll0, h1, h3], ?_⟩
    simp only [toPys, PyData.depthAll]
    omega
theorem lay_toPy : ∀ (n : Nat) (d : D), shal n d = true → (toPy d).canLay0 = true ∧ (toPy d).depth ≤ n
  | _, .int _, _ => by simp [toPy, PyData.canLay0, PyData.depth]
  | _, .bl _, _ => by simp [toPy, PyData.canLay0, PyData.depth]
  | _, .non, _ => by simp [toPy, PyData.canLay0, PyData.depth]
  | _, .str _, h => by simp [shal] at h
  | 0, .dct _ _ _, h => by simp [shal] at h
  | _ + 1, .dct _ _ _, h => by simp [shal] at h
  | 0, .tup _, h => by simp [shal] at h
  | 0, .lst _, h => by simp [shal] at h
  | n + 1, .tup l, h => by
    obtain ⟨h1, h2⟩ := lay_all (lay_toPy n) l (by simpa [shal] using h)
    exact ⟨by simpa [toPy, PyData.canLay0] using h1, by simp only [toPy, PyData.depth]; omega⟩
  | n + 1, .lst l, h => by
    obtain ⟨h1, h2⟩ := lay_all (lay_toPy n) l (by simpa [shal] using h)
    exact ⟨by simpa [toPy, PyData.canLay0] using h1, by simp only [toPy, PyData.depth]; omega⟩
theorem any_toPys (d : D) : ∀ l : List D, ((toPys l).any fun y => PyData.eqv y (toPy d)) = l.any fun y => eqD y d
  | [] => by simp [toPys]
  | x :: xs => by simp only [toPys, List.any_cons]; rw [eqv_toPy x d, any_toPys d xs]
section
variable {X : Cx} {pins : List (Addr × Obj)} {σ : St} {H : Hp} {s : Shared} {W : Addr → Prop}
mutual
theorem Rep.reads (I : Inv X pins σ H s) : ∀ {n : Nat} {d : D} {x : V} {v : Value}, shal n d = true → Rep X.K W H d x → RelV x v → ∃ as, Reads s.heap v (toPy d) as
  | _, _, _, _, _, .int i, r => by obtain ⟨t, rfl⟩ := r; exact ⟨_, .int _ _⟩
  | _, _, _, _, _, .bl b, r => by cases r; exact ⟨_, .bool _⟩
  | _, _, _, _, _, .non, r => by cases r; exact ⟨_, .none⟩
  | _, _, _, _, _, .str x, r => by obtain ⟨t, rfl⟩ := r; exact ⟨_, .str _ _⟩
  | 0, _, _, _, n, .tup h rs, r => by simp [shal] at n
  | 0, _, _, _, n, .lst h rs, r => by simp [shal] at n
  | _ + 1, _, _, _, n, .tup h rs, r => by
    cases r
    obtain ⟨its, rv, ⟨o, ho, hc, m, hd⟩, hz⟩ := I.tuple (.of h)
    obtain ⟨as, q⟩ := Reps.reads I (by simpa [shal] using n) rs rv
    exact ⟨as, by simp only [toPy]; exact .tuple ho hc hd (by simpa using q)⟩
  | _ + 1, _, _, _, n, .lst h rs, r => by
    cases r
    obtain ⟨its, rv, ⟨o, m, ho, hc, _, hd⟩, hz⟩ := I.list (show SqL X.K H _ _ from h.elim (fun z => .inl z.2) fun z => .inr z)
    obtain ⟨as, q⟩ := Reps.reads I (by simpa [shal] using n) rs rv
    exact ⟨_, by simp only [toPy]; exact .list ho hc hd (by simpa using q)⟩
  | 0, _, _, _, n, .dK _ _ _ _, r => by simp [shal] at n
  | 0, _, _, _, n, .dT _ _ _ _, r => by simp [shal] at n
  | _ + 1, _, _, _, n, .dK _ _ _ _, r => by simp [shal] at n
  | _ + 1, _, _, _, n, .dT _ _ _ _, r => by simp [shal] at n
theorem Reps.reads (I : Inv X pins σ H s) : ∀ {n : Nat} {ds : List D} {xs : List V} {vs : List Value}, ds.all (shal n) = true → Reps X.K W H ds xs → Vals xs vs → ∃ as, ReadsAll s.heap vs (toPys ds) as
  | _, _, _, _, _, .nil, r => by cases r; exact ⟨_, by simp only [toPys]; exact .nil⟩
  | _, _, _, _, n, .cons h t, r => by
    cases r with
    | cons r1 r2 =>
      simp only [List.all_cons, Bool.and_eq_true] at n
      obtain ⟨as, q1⟩ := Rep.reads I n.1 h r1
      obtain ⟨bs, q2⟩ := Reps.reads I n.2 t r2
      exact ⟨_, by simp only [toPys]; exact .cons q1 q2⟩
end
theorem Sees.reads (I : Inv X pins σ H s) {n : Nat} {d : D} {x : V} {v : Value} (hn : shal n d = true) (h : Sees X.K W H d x) (r : RelV x v) : ∃ as, Reads s.heap v (toPy d) as := by
  rcases h with h | ⟨a, o, rfl, e, rs⟩
  · exact h.reads I hn r
  · cases r
    cases rs with
    | lst rs =>
      obtain ⟨its, rv, ⟨o, m, ho, hc, _, hd⟩, hz⟩ := I.list (show SqL X.K H _ _ from .of e)
      cases n with
      | zero => simp [shal] at hn
      | succ n =>
        obtain ⟨as, q⟩ := rs.reads I (n := n) (by simpa [shal] using hn) rv
        exact ⟨_, by simp only [toPy]; exact .list ho hc hd (by simpa using q)⟩
    | dK l r => cases n <;> simp [shal] at hn
    | dT l r => cases n <;> simp [shal] at hn
theorem Sees.readsL (I : Inv X pins σ H s) {n : Nat} {l : List D} {x : V} {v : Value} (hn : l.all (shal n) = true) (h : Sees X.K W H (.lst l) x) (r : RelV x v) : ∃ as, Reads s.heap v (toPy (.lst l)) as :=
  h.reads I (n := n + 1) (by simpa [shal] using hn) r
theorem Sees.readsT (I : Inv X pins σ H s) {n : Nat} {l : List D} {x : V} {v : Value} (hn : l.all (shal n) = true) (h : Sees X.K W H (.tup l) x) (r : RelV x v) : ∃ as, Reads s.heap v (toPy (.tup l)) as :=
  h.reads I (n := n + 1) (by simpa [shal] using hn) r
end
theorem same_upd {H : Hp} {p : Addr} (h : H p = Option.none) (o : HO) : Same H (upd H p o) := fun b u q => by rw [upd_ne (ne_of_none q h)]; exact q
theorem res_new {K : PySem.W.Frag} {W : Addr → Prop} {H : Hp} {p : Addr} {ds : List D} {xs : List V} (hp : H p = Option.none) (r : Reps K W H ds xs) : Res K W H (upd H p (.lst xs)) (.lis true ds) (.ref p) := by
  refine .new hp upd_same (.lst (r.ext ⟨fun a o h _ => same_upd hp _ a o h, fun a xs h => same_upd hp _ a _ h, fun a o u h => same_upd hp _ a _ h, fun a w => ?_⟩))
  rcases w with w | rfl
  · exact .inl w
  · exact .inr hp
theorem res_tup {K : PySem.W.Frag} {W : Addr → Prop} {H : Hp} {p : Addr} {ds : List D} {xs : List V} (hp : H p = Option.none) (r : Reps K W H ds xs) : Res K W H (upd H p (.tup xs)) (.val (.tup ds)) (.ref p) :=
  .val (.tup upd_same (r.ext (.same (same_upd hp _))))
section
variable {X : Cx}
theorem line_eq : line = sizeLine := by rw [sizeLine_eq]; rfl
theorem ints_is : ∀ {l : List D} {ns : List Int}, ints? l = some ns → l = ns.map D.int
  | [], ns, e => by simp [ints?] at e; subst e; rfl
  | d :: r, ns, e => by
    cases d with
    | int i =>
      simp only [ints?, Option.map_eq_some_iff] at e
      obtain ⟨ms, e1, rfl⟩ := e
      rw [ints_is e1]; rfl
    | _ => simp [ints?] at e
theorem keys_kV (ns : List Int) : (ns.map Sum.inl).map kV = ns.map V.int := by
  rw [List.map_map]; rfl
theorem eqDs_ints : ∀ (a b : List Int), eqDs (a.map D.int) (b.map D.int) = decide (a = b)
  | [], [] => by simp [eqDs]
  | [], _ :: _ => by simp [eqDs]
  | _ :: _, [] => by simp [eqDs]
  | x :: xs, y :: ys => by
    rw [Bool.eq_iff_iff]
    simp [eqDs, eqD, eqDs_ints xs ys]
theorem inls_inj {a b : List Int} (h : (a.map Sum.inl : List Key) = b.map Sum.inl) : a = b := (List.map_inj_right (fun _ _ z => Sum.inl.inj z)).mp h
theorem kix_cons (k d : D) (ks : List D) : kix (d :: ks) k = if eqD d k then some 0 else (kix ks k).map (· + 1) := by
  unfold kix; rw [List.findIdx?_cons]
theorem dK_val : ∀ {ns : List Int} {ys : List V}, ns.length = ys.length → ∀ i : Int, valV (dKof ns ys) (.inl i) = (kix (ns.map D.int) (.int i)).bind fun j => ys[j]?
  | [], [], _, i => rfl
  | n :: ns, y :: ys, h, i => by
    have ih := dK_val (ns := ns) (ys := ys) (by simpa using h) i
    show valV ((Sum.inl n, y) :: dKof ns ys) (.inl i) = _
    rw [List.map_cons, kix_cons]
    by_cases e : n = i
    · rw [valV_pos (by simp [e])]; simp [eqD, e]
    · rw [valV_neg (by simp [e]), ih]
      have : eqD (.int n) (.int i) = false := by simp [eqD, e]
      rw [this]
      cases kix (ns.map D.int) (.int i) <;> simp
theorem dT_val : ∀ {ns : List (List Int)} {ys : List V}, ns.length = ys.length → ∀ i : List Int, valV (dTof ns ys) (i.map Sum.inl) = (kix (ns.map kT) (kT i)).bind fun j => ys[j]?
  | [], [], _, i => rfl
  | n :: ns, y :: ys, h, i => by
    have ih := dT_val (ns := ns) (ys := ys) (by simpa using h) i
    show valV ((n.map Sum.inl, y) :: dTof ns ys) (i.map Sum.inl) = _
    rw [List.map_cons, kix_cons]
    by_cases e : n = i
    · rw [valV_pos (by simp [e])]
      have : eqD (kT n) (kT i) = true := by simp [kT, eqD, eqDs_ints, e]
      rw [this]; rfl
    · rw [valV_neg (fun z => e (inls_inj z)), ih]
      have : eqD (kT n) (kT i) = false := by simp [kT, eqD, eqDs_ints, e]
      rw [this]
      cases kix (ns.map kT) (kT i) <;> simp
theorem kix_lt {ks : List D} {k : D} {j : Nat} (h : kix ks k = some j) : j < ks.length := by
  unfold kix at h
  obtain ⟨h1, _⟩ := List.findIdx?_eq_some_iff_getElem.mp h
  exact h1
theorem dK_some {ns : List Int} {ys : List V} (h : ns.length = ys.length) {i : Int} : (valV (dKof ns ys) (.inl i)).isSome = (kix (ns.map D.int) (.int i)).isSome := by
  rw [dK_val h]
  cases e : kix (ns.map D.int) (.int i) with
  | none => rfl
  | some j => have := kix_lt e; simp at this; simp; omega
theorem dT_some {ns : List (List Int)} {ys : List V} (h : ns.length = ys.length) {i : List Int} : (valV (dTof ns ys) (i.map Sum.inl)).isSome = (kix (ns.map kT) (kT i)).isSome := by
  rw [dT_val h]
  cases e : kix (ns.map kT) (kT i) with
  | none => rfl
  | some j => have := kix_lt e; simp at this; simp; omega
theorem dK_at {K : PySem.W.Frag} {W : Addr → Prop} {H : Hp} {ns : List Int} {ys : List V} {vs : List D} {i : Int} {d : D} (h : ns.length = ys.length) (r : Reps K W H vs ys) (e : dget (ns.map D.int) vs (.int i) = some d) : ∃ y, valV (dKof ns ys) (.inl i) = some y ∧ Rep K W H d y := by
  unfold dget at e
  rw [Option.bind_eq_some_iff] at e
  obtain ⟨j, e1, e2⟩ := e
  obtain ⟨y, e3, e4⟩ := r.get e2
  exact ⟨y, by rw [dK_val h, e1]; exact e3, e4⟩
theorem dT_at {K : PySem.W.Frag} {W : Addr → Prop} {H : Hp} {ns : List (List Int)} {ys : List V} {vs : List D} {i : List Int} {d : D} (h : ns.length = ys.length) (r : Reps K W H vs ys) (e : dget (ns.map kT) vs (kT i) = some d) : ∃ y, valV (dTof ns ys) (i.map Sum.inl) = some y ∧ Rep K W H d y := by
  unfold dget at e
  rw [Option.bind_eq_some_iff] at e
  obtain ⟨j, e1, e2⟩ := e
  obtain ⟨y, e3, e4⟩ := r.get e2
  exact ⟨y, by rw [dT_val h, e1]; exact e3, e4⟩
theorem vr_add : OpR X (binaryOp .Add) (VR2 X.K (primD .add)) := by
  rintro pins s σ H x y v u Q I rx ry ⟨W, ds, r, wf, hs, hf, q⟩
  obtain ⟨d, e, rfl, h1, h2⟩ := pr2 hs
  replace hf : pAdd [d, e] = some r := hf
  unfold pAdd at hf
  split at hf
  · rename_i a b z; cases z; cases hf
    cases h1.int; cases h2.int
    exact op_add pins s σ H _ _ v u Q I rx ry ⟨_, _, rfl, rfl, q _ H (.refl H) (.val (.int _))⟩
  · rename_i a b z; cases z
    split at hf
    · rename_i hl
      cases hf
      obtain ⟨p, xs, rfl, hp, rp⟩ := h1.lst
      obtain ⟨p2, xs2, rfl, hp2, rp2⟩ := h2.lst
      cases rx; cases ry
      obtain ⟨its, rv, ⟨⟨c1, d1, da1, sl1⟩, n, ho, hc, hdd, hd⟩, hz⟩ := I.list hp
      obtain ⟨its2, rv2, ⟨⟨c2, d2, da2, sl2⟩, n2, ho2, hc2, hdd2, hd2⟩, hz2⟩ := I.list hp2
      simp only at hc hd hdd hc2 hd2 hdd2
      subst hc hd hdd hc2 hd2 hdd2
      have l1 := rv.length
      have l2 := rv2.length
      have l3 := rp.length
      have l4 := rp2.length
      have le := line_eq
      refine concat_meets ⟨_, ho, rfl⟩ ⟨_, ho2, rfl⟩ noFill_list_add seq_list_add PySem.F.slot_list_add PySem.F.entry_list_add (PySem.F.args_list_add_2 _ _) (list_addW p p2 its.toArray its2.toArray n n2 Option.none Option.none sl1 sl2 (by simp; omega)) ⟨ho, ho2, ?_⟩
      have e : its.toArray ++ its2.toArray = (its ++ its2).toArray := by simp
      rw [e]
      exact ⟨.ref _, _, I.lnew (t' := s.toks) (rv.append rv2) (by rw [List.length_append]; omega), rfl, q _ _ (same_upd I.fresh _) (res_new I.fresh (rp.append rp2))⟩
    · cases hf
  · cases hf
theorem vr_sub : OpR X (binaryOp .Sub) (VR2 X.K (primD .sub)) := by
  rintro pins s σ H x y v u Q I rx ry ⟨W, ds, r, wf, hs, hf, q⟩
  obtain ⟨d, e, rfl, h1, h2⟩ := pr2 hs
  replace hf : pSub [d, e] = some r := hf
  unfold pSub at hf
  split at hf
  · rename_i a b z; cases z; cases hf
    cases h1.int; cases h2.int
    exact op_sub pins s σ H _ _ v u Q I rx ry ⟨_, _, rfl, rfl, q _ H (.refl H) (.val (.int _))⟩
  · cases hf
theorem vr_mul : OpR X (binaryOp .Mult) (VR2 X.K (primD .mul)) := by
  rintro pins s σ H x y v u Q I rx ry ⟨W, ds, r, wf, hs, hf, q⟩
  obtain ⟨d, e, rfl, h1, h2⟩ := pr2 hs
  replace hf : pMul [d, e] = some r := hf
  unfold pMul at hf
  split at hf
  · rename_i a b z; cases z
    split at hf
    · rename_i hc
      cases hf
      cases h1.int; cases h2.int
      exact op_mul pins s σ H _ _ v u Q I rx ry ⟨_, _, rfl, rfl, hc, q _ H (.refl H) (.val (.int _))⟩
    · cases hf
  · cases hf
theorem vr_mod : OpR X (binaryOp .Mod) (VR2 X.K (primD .mod)) := by
  rintro pins s σ H x y v u Q I rx ry ⟨W, ds, r, wf, hs, hf, q⟩
  obtain ⟨d, e, rfl, h1, h2⟩ := pr2 hs
  replace hf : pMod [d, e] = some r := hf
  unfold pMod at hf
  split at hf
  · rename_i a b z; cases z
    split at hf
    · rename_i hc
      cases hf
      cases h1.int; cases h2.int
      exact op_mod pins s σ H _ _ v u Q I rx ry ⟨_, _, rfl, rfl, hc, q _ H (.refl H) (.val (.int _))⟩
    · cases hf
  · cases hf
theorem vr_neg : UnR X (unaryOp .USub) (VR1 X.K (primD .neg)) := by
  rintro pins s σ H x v Q I rx ⟨W, ds, r, wf, hs, hf, q⟩
  obtain ⟨d, rfl, h1⟩ := pr1 hs
  replace hf : pNeg [d] = some r := hf
  unfold pNeg at hf
  split at hf
  · rename_i a z; cases z; cases hf
    cases h1.int
    exact un_neg pins s σ H _ v Q I rx ⟨_, rfl, q _ H (.refl H) (.val (.int _))⟩
  · cases hf
theorem room8 {A : Around} (hu : A.units + 64 < cLine) {d e : D} (h : shal 8 d = true) : A.units + min (toPy d).depth (toPy e).depth < cLine := by
  have h1 := (lay_toPy 8 d h).2
  have h2 : min (toPy d).depth (toPy e).depth ≤ (toPy d).depth := Nat.min_le_left _ _
  omega
theorem vr_eq (hu : X.A.units + 64 < cLine) : OpR X (compareOp .Eq) (VR2 X.K (primD .eq)) := by
  rintro pins s σ H x y v u Q I rx ry ⟨W, ds, r, wf, hs, hf, q⟩
  obtain ⟨d, e, rfl, h1, h2⟩ := pr2 hs
  replace hf : pEq [d, e] = some r := hf
  simp only [pEq] at hf
  split at hf
  · rename_i hc
    rw [Bool.and_eq_true] at hc
    cases hf
    obtain ⟨as, ra⟩ := h1.reads I hc.1 rx
    obtain ⟨bs, rb⟩ := h2.reads I hc.2 ry
    refine SeqAt.compareEq_reads ra rb (lay_toPy 8 d hc.1).1 (lay_toPy 8 e hc.2).1 (room8 hu hc.1) ?_
    rw [eqv_toPy]
    exact ⟨.bl _, H, I, rfl, q _ H (.refl H) (.val (.bl _))⟩
  · cases hf
theorem room9 {A : Around} (hu : A.units + 64 < cLine) {d : D} {l : List PyData} (h : shal 8 d = true) : A.units + 1 + min (PyData.depthAll l) (toPy d).depth < cLine := by
  have h1 := (lay_toPy 8 d h).2
  have h2 : min (PyData.depthAll l) (toPy d).depth ≤ (toPy d).depth := Nat.min_le_right _ _
  omega
theorem vr_in (hu : X.A.units + 64 < cLine) : OpR X (compareOp .In) (VR2 X.K (primD .inn)) := by
  rintro pins s σ H x y v u Q I rx ry ⟨W, ds, r, wf, hs, hf, q⟩
  obtain ⟨d, e, rfl, h1, h2⟩ := pr2 hs
  replace hf : pIn [d, e] = some r := hf
  unfold pIn at hf
  split at hf
  · rename_i x t ks vs z; cases z
    split at hf
    · rename_i hk
      cases hf
      cases t with
      | false =>
        cases d with
        | int i =>
          cases h1.int
          obtain ⟨a, ns, ys, rfl, rfl, hH, hl, _⟩ := h2.dK
          cases ry
          exact d_in (by omega) I (DGet.k (k := .inl i) hH) rx fun s' I' => ⟨.bl _, H, I', rfl, q _ H (.refl H) (.val (by rw [dK_some hl]; exact .bl _))⟩
        | _ => simp [isKey] at hk
      | true =>
        cases d with
        | tup l =>
          obtain ⟨ms, hms⟩ : ∃ ms, ints? l = some ms := by simp only [isKey, Option.isSome_iff_exists] at hk; exact hk
          obtain ⟨b, xs, rfl, hb, rp⟩ := h1.tupH
          obtain ⟨a, ns, ys, rfl, rfl, hH, hl, _⟩ := h2.dT
          cases ry
          have e1 := rp.ofInts hms
          have e2 := ints_is hms
          subst e1 e2
          exact d_in (by omega) I (DGet.t (k := ms.map Sum.inl) hH (by rw [hb, keys_kV])) rx fun s' I' => ⟨.bl _, H, I', rfl, q _ H (.refl H) (.val (by rw [dT_some hl]; exact .bl _))⟩
        | _ => simp [isKey] at hk
    · cases hf
  · rename_i d l z; cases z
    split at hf
    · rename_i hc
      rw [Bool.and_eq_true] at hc
      cases hf
      obtain ⟨as, ra⟩ := h1.reads I hc.1 rx
      obtain ⟨bs, rb⟩ := h2.readsT I hc.2 ry
      simp only [toPy] at rb
      refine SeqAt.in_tuple_reads rb ra (lay_all (lay_toPy 8) l hc.2).1 (lay_toPy 8 d hc.1).1 (room9 hu hc.1) ?_
      rw [any_toPys]
      exact ⟨.bl _, H, I, rfl, q _ H (.refl H) (.val (.bl _))⟩
    · cases hf
  · rename_i d l z; cases z
    split at hf
    · rename_i hc
      rw [Bool.and_eq_true] at hc
      cases hf
      obtain ⟨as, ra⟩ := h1.reads I hc.1 rx
      obtain ⟨bs, rb⟩ := h2.readsL I hc.2 ry
      simp only [toPy] at rb
      refine SeqAt.in_list_reads rb ra (lay_all (lay_toPy 8) l hc.2).1 (lay_toPy 8 d hc.1).1 (room9 hu hc.1) ?_
      rw [any_toPys]
      exact ⟨.bl _, H, I, rfl, q _ H (.refl H) (.val (.bl _))⟩
    · cases hf
  · cases hf
theorem lexLt_eq : ∀ x y : List Int, LW.lexLt x y = HT.lexLt x y
  | [], [] => rfl
  | [], _ :: _ => rfl
  | _ :: _, [] => rfl
  | a :: x, b :: y => by rw [HT.lexLt_cons, LW.lexLt, lexLt_eq x y]
theorem vr_lt (hu : X.A.units + 64 < cLine) : OpR X (compareOp .Lt) (VR2 X.K (primD .lt)) := by
  rintro pins s σ H x y v u Q I rx ry ⟨W, ds, r, wf, hs, hf, q⟩
  obtain ⟨d, e, rfl, h1, h2⟩ := pr2 hs
  replace hf : pLt [d, e] = some r := hf
  unfold pLt at hf
  split at hf
  · rename_i a b z; cases z; cases hf
    cases h1.int; cases h2.int
    exact op_lt pins s σ H _ _ v u Q I rx ry ⟨_, _, rfl, rfl, q _ H (.refl H) (.val (.bl _))⟩
  · rename_i a b z; cases z
    simp only [Option.bind_eq_some_iff] at hf
    obtain ⟨ns, e1, ms, e2, hf⟩ := hf
    cases hf
    obtain ⟨p, xs, rfl, hp, rp⟩ := h1.tup
    obtain ⟨p2, xs2, rfl, hp2, rp2⟩ := h2.tup
    rw [rp.ofInts e1] at hp
    rw [rp2.ofInts e2] at hp2
    refine op_ltT (by omega) pins s σ H _ _ v u Q I rx ry ⟨_, _, ns, ms, rfl, rfl, hp, hp2, ?_⟩
    rw [← lexLt_eq]
    exact q _ H (.refl H) (.val (.bl _))
  · cases hf
theorem vr_le : OpR X (compareOp .LtE) (VR2 X.K (primD .le)) := by
  rintro pins s σ H x y v u Q I rx ry ⟨W, ds, r, wf, hs, hf, q⟩
  obtain ⟨d, e, rfl, h1, h2⟩ := pr2 hs
  replace hf : pLe [d, e] = some r := hf
  unfold pLe at hf
  split at hf
  · rename_i a b z; cases z; cases hf
    cases h1.int; cases h2.int
    exact op_le pins s σ H _ _ v u Q I rx ry ⟨_, _, rfl, rfl, q _ H (.refl H) (.val (.bl _))⟩
  · cases hf
theorem vr_gt : OpR X (compareOp .Gt) (VR2 X.K (primD .gt)) := by
  rintro pins s σ H x y v u Q I rx ry ⟨W, ds, r, wf, hs, hf, q⟩
  obtain ⟨d, e, rfl, h1, h2⟩ := pr2 hs
  replace hf : pGt [d, e] = some r := hf
  unfold pGt at hf
  split at hf
  · rename_i a b z; cases z; cases hf
    cases h1.int; cases h2.int
    exact op_gt pins s σ H _ _ v u Q I rx ry ⟨_, _, rfl, rfl, q _ H (.refl H) (.val (.bl _))⟩
  · cases hf
theorem reps_at {K : PySem.W.Frag} {W : Addr → Prop} {H : Hp} {ds : List D} {xs : List V} {i : Int} {d : D} (r : Reps K W H ds xs) (h : LW.atI ds i = some d) : ∃ x, L2.atI xs i = some x ∧ Rep K W H d x := by
  unfold LW.atI at h
  unfold L2.atI
  rw [Option.bind_eq_some_iff] at h
  obtain ⟨j, h1, h2⟩ := h
  obtain ⟨x, e, q⟩ := r.get h2
  refine ⟨x, ?_, q⟩
  rw [← r.length]
  rw [Option.bind_eq_some_iff]
  exact ⟨j, h1, e⟩
theorem ix_dict {value slice : Expr} {pins : List (Addr × Obj)} {s : Shared} {σ : St} {H : Hp} {a : Addr} {y v : V} {u : Value} {Q : VK} (hu : X.A.units + 64 < cLine) (I : Inv X pins σ H s) (g : DGet H a y (some v)) (ry : RelV y u) (q : Q v H)
    (hs : subscripted slice false (.ref a) u = operate [.ref a, u] (getItem (.ref a) u)) : wpAny (model X.prog X.w) X.A (subscriptTail value slice (.ref a) u) (EP X pins σ Q) X.xe s := by
  have hT := dict_typeIs I g
  unfold subscriptTail
  refine wpAny_bind ?_
  rw [getitemInPython_of_ne hT.not_modules]
  refine wpAny_bind (wpAny_specialOf hT PySem.F.slot_dict_getitem.lookup ?_)
  have fin : wpAny (model X.prog X.w) X.A (subscripted slice false (.ref a) u) (fun r s₃ => wpAny (model X.prog X.w) X.A (letTemporaryGo value (.ref a) r >>= fun _ => pure r) (EP X pins σ Q) X.xe s₃) X.xe s := by
    rw [hs]
    refine wpAny_operating (wpAny_mono (d_getItem (Q := EP X pins σ Q) (by omega) I g ry fun w' s' I' rv => ⟨v, H, I', rv, q⟩) (fun r s₃ h₃ => wpAny_bind (wpAny_letTemporaryGo (wpAny_pure h₃))) fun _ _ x => x)
  first
    | exact wpAny_pure (wpAny_bind fin)
    | exact wpAny_bind (wpAny_pure (wpAny_bind fin))
    | exact wpAny_pure (wpAny_bind (wpAny_pure (wpAny_bind fin)))
    | exact wpAny_bind (wpAny_bind (wpAny_pure fin))
theorem vr_idx (hu : X.A.units + 64 < cLine) : IxR X (VR2 X.K (primD .idx)) := by
  rintro value slice pins s σ H x y v u Q I rx ry ⟨W, ds, r, wf, hs, hf, q⟩ hsub
  obtain ⟨d, e, rfl, h1, h2⟩ := pr2 hs
  replace hf : pIdx [d, e] = some r := hf
  unfold pIdx at hf
  split at hf
  · rename_i t ks vs k z; cases z
    split at hf
    · rename_i hk
      rw [Option.map_eq_some_iff] at hf
      obtain ⟨d', e1, rfl⟩ := hf
      cases t with
      | false =>
        cases e with
        | int i =>
          cases h2.int
          obtain ⟨a, ns, ys, rfl, rfl, hH, hl, rp⟩ := h1.dK
          cases rx
          obtain ⟨y, e2, ry'⟩ := dK_at hl rp e1
          exact ix_dict hu I (by rw [← e2]; exact DGet.k (k := .inl i) hH) ry (q _ H (.refl H) (.val ry')) hsub
        | _ => simp [isKey] at hk
      | true =>
        cases e with
        | tup l =>
          obtain ⟨ms, hms⟩ : ∃ ms, ints? l = some ms := by simp only [isKey, Option.isSome_iff_exists] at hk; exact hk
          obtain ⟨b, xs, rfl, hb, rpb⟩ := h2.tupH
          obtain ⟨a, ns, ys, rfl, rfl, hH, hl, rp⟩ := h1.dT
          cases rx
          have z1 := rpb.ofInts hms
          have z2 := ints_is hms
          subst z1 z2
          obtain ⟨y, e2, ry'⟩ := dT_at hl rp e1
          exact ix_dict hu I (by rw [← e2]; exact DGet.t (k := ms.map Sum.inl) hH (by rw [hb, keys_kV])) ry (q _ H (.refl H) (.val ry')) hsub
        | _ => simp [isKey] at hk
    · cases hf
  · rename_i l i z; cases z
    rw [Option.map_eq_some_iff] at hf
    obtain ⟨d, e1, rfl⟩ := hf
    obtain ⟨p, xs, rfl, hp, rp⟩ := h1.tup
    cases h2.int
    obtain ⟨z, e2, rz⟩ := reps_at rp e1
    exact ix_tup value slice pins s σ H _ _ v u Q I rx ry ⟨p, xs, i, z, rfl, rfl, hp, e2, q _ H (.refl H) (.val rz)⟩ hsub
  · rename_i l i z; cases z
    rw [Option.map_eq_some_iff] at hf
    obtain ⟨d, e1, rfl⟩ := hf
    obtain ⟨p, xs, rfl, hp, rp⟩ := h1.lst
    cases h2.int
    obtain ⟨z, e2, rz⟩ := reps_at rp e1
    exact ix_list value slice pins s σ H _ _ v u Q I rx ry ⟨p, xs, i, z, rfl, rfl, hp, e2, q _ H (.refl H) (.val rz)⟩ hsub
  · cases hf
theorem vr_len : CallR X (.builtin "len") (VR X.K (primD .len)) := by
  rintro pins s σ H xs us Q I rv ⟨W, ds, r, wf, hs, hf, q⟩
  replace hf : pLen ds = some r := hf
  unfold pLen at hf
  split at hf
  · cases hf
    cases hs with
    | cons h1 t =>
      cases t
      obtain ⟨p, ys, rfl, hp, rp⟩ := h1.tup
      refine call_len_seq pins s σ H _ us Q I rv ⟨p, ys, rfl, .inr hp, ?_⟩
      rw [← rp.length]
      exact q _ H (.refl H) (.val (.int _))
  · cases hf
    cases hs with
    | cons h1 t =>
      cases t
      obtain ⟨p, ys, rfl, hp, rp⟩ := h1.lst
      refine call_len_seq pins s σ H _ us Q I rv ⟨p, ys, rfl, .inl hp, ?_⟩
      rw [← rp.length]
      exact q _ H (.refl H) (.val (.int _))
  · cases hf
theorem vr_toTup : CallR X (.type "tuple") (VR X.K (primD .toTup)) := by
  rintro pins s σ H xs us Q I rv ⟨W, ds, r, wf, hs, hf, q⟩
  replace hf : pToTup ds = some r := hf
  unfold pToTup at hf
  split at hf
  · cases hf
    cases hs with
    | cons h1 t =>
      cases t
      obtain ⟨p, ys, rfl, hp, rp⟩ := h1.tupH
      exact call_tuple_of pins s σ H _ us Q I rv ⟨p, ys, rfl, .inr ⟨.of hp, q _ H (.refl H) (.val (.tup hp rp))⟩⟩
  · cases hf
    cases hs with
    | cons h1 t =>
      cases t
      obtain ⟨p, ys, rfl, hp, rp⟩ := h1.lst
      exact call_tuple_of pins s σ H _ us Q I rv ⟨p, ys, rfl, .inl ⟨hp, fun l hl => q _ _ (same_upd hl _) (res_tup hl rp)⟩⟩
  · cases hf
end
end L2.LW
set_option linter.all false
set_option maxHeartbeats 4000000
namespace L2.LW
open PySem PySem.Spec PyProof.Rows
structure IE (X : Cx) (fn : Nat → List D → Option SV) (e : Expr) (c : E) : Prop where
  h : PE X e (tE X.K fn c)
structure IA (X : Cx) (fn : Nat → List D → Option SV) (es : List Expr) (cs : Es) : Prop where
  h : PA X es (tVs X.K fn cs)
structure IT (X : Cx) (fn : Nat → List D → Option SV) (e : Expr) (c : E) : Prop where
  h : PT X e (tT X.K fn c)
structure IW (X : Cx) (fn : Nat → List D → Option SV) (e : Expr) (c : E) : Prop where
  h : PW X e (tT X.K fn c)
theorem Res.back {K : PySem.W.Frag} {W : Addr → Prop} {H H1 H2 : Hp} {r : SV} {v : V} (h : Res K W H1 H2 r v) (s : Same H H1) : Res K W H H2 r v := by
  cases h with
  | val h => exact .val h
  | new h e r => exact .new (s.free h) e r
  | see h e r => exact .see h e r
theorem R.wf' {K : PySem.W.Frag} {W : Addr → Prop} {ρ : LW.Env} {σ : St} {H H' : Hp} (r : R K W ρ σ H) (s : Same H H') : Wf W H' := (r.same s).wf
theorem frz_sees {K : PySem.W.Frag} {W : Addr → Prop} {H : Hp} : ∀ {rs : List SV} {vs : List V}, Paired (Frz K W H) rs vs → Paired (Sees K W H) (rs.map seeD) vs
  | _, _, .nil => .nil
  | _, _, .cons h t => .cons h.sees (frz_sees t)
theorem frz_toDs {K : PySem.W.Frag} {W : Addr → Prop} {H : Hp} : ∀ {rs : List SV} {vs : List V} {ds : List D}, Paired (Frz K W H) rs vs → toDs rs = some ds → Reps K W H ds vs
  | _, _, _, .nil, e => by simp [toDs] at e; subst e; exact .nil
  | _, _, _, .cons h t, e => by
    simp only [toDs, Option.bind_eq_some_iff, Option.map_eq_some_iff] at e
    obtain ⟨d, e1, ds, e2, rfl⟩ := e
    exact .cons (h.toD e1) (frz_toDs t e2)
section
variable {es : List Expr} {env : PySem.Env}
theorem star_Name {a b} : starEach (.Name a b :: es) env = (false, eval (.Name a b) env) :: starEach es env := rfl
theorem star_Constant {a b c} : starEach (.Constant a b c :: es) env = (false, eval (.Constant a b c) env) :: starEach es env := rfl
theorem star_BinOp {a b c d} : starEach (.BinOp a b c d :: es) env = (false, eval (.BinOp a b c d) env) :: starEach es env := rfl
theorem star_Compare {a b c d} : starEach (.Compare a b c d :: es) env = (false, eval (.Compare a b c d) env) :: starEach es env := rfl
theorem star_Call {a b c d} : starEach (.Call a b c d :: es) env = (false, eval (.Call a b c d) env) :: starEach es env := rfl
theorem star_Subscript {a b c} : starEach (.Subscript a b c :: es) env = (false, eval (.Subscript a b c) env) :: starEach es env := rfl
theorem star_Tuple {a b c} : starEach (.Tuple a b c :: es) env = (false, eval (.Tuple a b c) env) :: starEach es env := rfl
theorem star_ListComp {a b c d} : starEach (.ListComp a b c d :: es) env = (false, eval (.ListComp a b c d) env) :: starEach es env := rfl
theorem sa_nil {pos : Pos} : (backTo pos (starEach [] env)).any (·.1) = false := rfl
theorem sa_cons {pos : Pos} {e : Expr} (h : starEach (e :: es) env = (false, eval e env) :: starEach es env) (t : (backTo pos (starEach es env)).any (·.1) = false) : (backTo pos (starEach (e :: es) env)).any (·.1) = false := by
  rw [h]; simpa [backTo] using t
theorem it_Name {a b} : ∀ whole, isTrue (.Name a b) env whole = (do let v ← whole; standAt (Expr.Name a b).pos; holding [v] (truthy v)) := fun _ => rfl
theorem it_Call {a b c d} : ∀ whole, isTrue (.Call a b c d) env whole = (do let v ← whole; standAt (Expr.Call a b c d).pos; holding [v] (truthy v)) := fun _ => rfl
end
section
variable {X : Cx} {fn : Nat → List D → Option SV} {a b c e : Expr} {ca cb cc ce : E} {es : List Expr} {cs : Es} {pos p : Pos} {x : Str}
theorem IE.v (h : IE X fn e ce) : PE X e (tV X.K fn ce) := h.h.imp fun σ H Q ⟨W, ρ, r, hR, he, q⟩ => ⟨W, ρ, r, hR, he, fun v H' s x => q v H' s (x.frz hR.wf)⟩
theorem i_int {i : Int} {j : Nat} : IE X fn (.Constant (.int i) j pos) (.int i) := .mk <| pe_int.imp fun σ H Q ⟨W, ρ, r, hR, he, q⟩ => by
  simp only [evE] at he; cases he; exact q _ H (.refl H) (.val (.int i))
theorem i_bl {i : Bool} {j : Nat} : IE X fn (.Constant (.bool i) j pos) (.bl i) := .mk <| pe_bl.imp fun σ H Q ⟨W, ρ, r, hR, he, q⟩ => by
  simp only [evE] at he; cases he; exact q _ H (.refl H) (.val (.bl i))
theorem i_str {i : Str} {j : Nat} : IE X fn (.Constant (.str i) j pos) (.str i) := .mk <| pe_str.imp fun σ H Q ⟨W, ρ, r, hR, he, q⟩ => by
  simp only [evE] at he; cases he; exact q _ H (.refl H) (.val (.str i))
theorem i_var (i : Nat) (hN : X.N[i]? = some x) (hv : Vis X.env.scope x) (hd : (x == ("__debug__" : Str)) = false := by decide) (hcd : (x == ("__classdict__" : Str)) = false := by decide) : IE X fn (.Name x pos) (.var i) :=
  .mk <| (pe_var hN hv hd hcd).imp fun σ H Q ⟨W, ρ, r, hR, he, q⟩ => by
    simp only [evE] at he
    obtain ⟨v, h1, _, h3⟩ := hR.look he
    exact ⟨v, h1, q v H (.refl H) h3⟩
theorem i_globI {i : Int} {t : Tok} (hg : Gl X x) (hm : X.mg x = some (.int i t)) (hd : (x == ("__debug__" : Str)) = false := by decide) : IE X fn (.Name x pos) (.int i) :=
  .mk <| (pe_glob hg hm (v := .int i) ⟨t, rfl⟩ hd).imp fun σ H Q ⟨W, ρ, r, hR, he, q⟩ => by
    simp only [evE] at he; cases he; exact q _ H (.refl H) (.val (.int i))
theorem i_nil : IA X fn [] .nil := .mk <| pa_nil.imp fun σ H Q ⟨W, ρ, rs, hR, he, q⟩ => by
  simp only [evEs] at he; cases he; exact q _ H (.refl H) .nil
theorem i_cons (ha : IE X fn e ce) (hr : IA X fn es cs) (hs : starEach (e :: es) X.env = (false, eval e X.env) :: starEach es X.env := by rfl) : IA X fn (e :: es) (.cons ce cs) :=
  .mk <| (pa_cons ha.v hr.h hs).imp fun σ H Q ⟨W, ρ, rs, hR, he, q⟩ => by
    simp only [evEs, Option.bind_eq_some_iff, Option.map_eq_some_iff] at he
    obtain ⟨r, e1, rs', e2, rfl⟩ := he
    exact ⟨W, ρ, r, hR, e1, fun v H1 s1 f1 => ⟨W, ρ, rs', hR.same s1, e2, fun vs H2 s2 f2 => q _ H2 (s1.trans s2) (.cons (f1.same s2) f2)⟩⟩
theorem args_vr {K : PySem.W.Frag} {p : Prim} {W : Addr → Prop} {ρ : LW.Env} {σ : St} {H H1 : Hp} {Q : VK} {rs : List SV} {vs : List V} {r : SV} (hR : R K W ρ σ H) (s1 : Same H H1) (f : Paired (Frz K W H1) rs vs)
    (e : primD p (rs.map seeD) = some r) (q : ∀ v H', Same H H' → Res K W H H' r v → Q v H') : VR K (primD p) vs H1 Q :=
  ⟨W, rs.map seeD, r, hR.wf' s1, frz_sees f, e, fun v H' s2 h => q v H' (s1.trans s2) (h.back s1)⟩
theorem two_vr {K : PySem.W.Frag} {p : Prim} {ρ : LW.Env} {σ : St} {H : Hp} {Q : VK} {W : Addr → Prop} {r : SV} (hR : R K W ρ σ H) (he : evE fn (.prim p (.cons ca (.cons cb .nil))) ρ = some r) (q : ∀ v H', Same H H' → Res K W H H' r v → Q v H') :
    tOp (VR2 K (primD p)) (tV K fn ca) (tV K fn cb) σ H Q := by
  simp only [evE, evEs, Option.bind_eq_some_iff, Option.map_eq_some_iff] at he
  obtain ⟨rs, ⟨r1, e1, rs', ⟨r2, e2, rs'', e3, rfl⟩, rfl⟩, e4⟩ := he
  cases e3
  exact ⟨W, ρ, r1, hR, e1, fun v1 H1 s1 f1 => ⟨W, ρ, r2, hR.same s1, e2, fun v2 H2 s2 f2 => args_vr hR (s1.trans s2) (.cons (f1.same s2) (.cons f2 .nil)) e4 q⟩⟩
theorem i_op {op : Operator} {pr : Prim} (ho : OpR X (binaryOp op) (VR2 X.K (primD pr))) (ha : IE X fn a ca) (hb : IE X fn b cb) : IE X fn (.BinOp a op b pos) (.prim pr (.cons ca (.cons cb .nil))) :=
  .mk <| (pe_op ho ha.v hb.v).imp fun σ H Q ⟨W, ρ, r, hR, he, q⟩ => two_vr hR he q
theorem i_un {op : UnaryOp} {pr : Prim} (ho : UnR X (unaryOp op) (VR1 X.K (primD pr))) (ha : IE X fn a ca) : IE X fn (.UnaryOp op a pos) (.prim pr (.cons ca .nil)) :=
  .mk <| (pe_un ho ha.v).imp fun σ H Q ⟨W, ρ, r, hR, he, q⟩ => by
    simp only [evE, evEs, Option.bind_eq_some_iff, Option.map_eq_some_iff] at he
    obtain ⟨rs, ⟨r1, e1, rs', e3, rfl⟩, e4⟩ := he
    cases e3
    exact ⟨W, ρ, r1, hR, e1, fun v1 H1 s1 f1 => args_vr hR s1 (.cons f1 .nil) e4 q⟩
theorem i_cmp {op : CmpOp} {pr : Prim} (ho : OpR X (compareOp op) (VR2 X.K (primD pr))) (ha : IE X fn a ca) (hb : IE X fn b cb) (hm : behindInMarks op b = false) : IE X fn (.Compare a [op] [b] pos) (.prim pr (.cons ca (.cons cb .nil))) :=
  .mk <| (pe_cmpR ho ha.v hb.v hm).imp fun σ H Q ⟨W, ρ, r, hR, he, q⟩ => two_vr hR he q
theorem i_ix (hu : X.A.units + 64 < cLine) (ha : IE X fn a ca) (hb : IE X fn b cb) (hs : PlainIx b) : IE X fn (.Subscript a b pos) (.prim .idx (.cons ca (.cons cb .nil))) :=
  .mk <| (pe_ix (vr_idx hu) ha.v hb.v hs).imp fun σ H Q ⟨W, ρ, r, hR, he, q⟩ => two_vr hR he q
theorem prim_vr {K : PySem.W.Frag} {pr : Prim} {ρ : LW.Env} {σ : St} {H : Hp} {Q : VK} {W : Addr → Prop} {r : SV} (hR : R K W ρ σ H) (he : evE fn (.prim pr cs) ρ = some r) (q : ∀ v H', Same H H' → Res K W H H' r v → Q v H') :
    tCB (VR K (primD pr)) (tVs K fn cs) σ H Q := by
  simp only [evE, Option.bind_eq_some_iff] at he
  obtain ⟨rs, e1, e2⟩ := he
  exact ⟨W, ρ, rs, hR, e1, fun vs H1 s1 f => args_vr hR s1 f e2 q⟩
theorem i_callB {id : String} {pr : Prim} (hc : CallR X (.builtin id) (VR X.K (primD pr))) (hg : Gl X x) (hm : X.mg x = none) (hv : bootBuiltins x = some (.builtin id)) (ha : IA X fn (e :: es) cs) (hn : x ≠ "__name__" := by decide) (hdb : (x == ("__debug__" : Str)) = false := by decide)
    (he : starEach (e :: es) X.env = (false, eval e X.env) :: starEach es X.env := by rfl) (hpl : (backTo pos (starEach es X.env)).any (·.1) = false := by rfl) : IE X fn (.Call (.Name x p) (e :: es) [] pos) (.prim pr cs) :=
  .mk <| (pe_callB hc hg hm hv ha.h hn hdb he hpl).imp fun σ H Q ⟨W, ρ, r, hR, h, q⟩ => prim_vr hR h q
theorem i_callTy {T : String} {pr : Prim} (hc : CallR X (.type T) (VR X.K (primD pr))) (hg : Gl X x) (hm : X.mg x = none) (hv : bootBuiltins x = some (.type T)) (ha : IA X fn (e :: es) cs) (hn : x ≠ "__name__" := by decide) (hdb : (x == ("__debug__" : Str)) = false := by decide)
    (he : starEach (e :: es) X.env = (false, eval e X.env) :: starEach es X.env := by rfl) (hpl : (backTo pos (starEach es X.env)).any (·.1) = false := by rfl) : IE X fn (.Call (.Name x p) (e :: es) [] pos) (.prim pr cs) :=
  .mk <| (pe_callTy hc hg hm hv ha.h hn hdb he hpl).imp fun σ H Q ⟨W, ρ, r, hR, h, q⟩ => prim_vr hR h q
theorem reps_len {K : PySem.W.Frag} {W : Addr → Prop} {H : Hp} : ∀ {rs : List SV} {ds : List D}, toDs rs = some ds → ds.length = rs.length
  | [], _, e => by simp [toDs] at e; subst e; rfl
  | r :: rs, _, e => by
    simp only [toDs, Option.bind_eq_some_iff, Option.map_eq_some_iff] at e
    obtain ⟨d, e1, ds, e2, rfl⟩ := e
    simp [reps_len (K := K) (W := W) (H := H) e2]
noncomputable def esLen : Es → Nat
  | .nil => 0
  | .cons _ r => esLen r + 1
theorem evEs_len : ∀ {cs : Es} {ρ : LW.Env} {rs : List SV}, evEs fn cs ρ = some rs → rs.length = esLen cs
  | .nil, _, _, e => by simp only [evEs] at e; cases e; rfl
  | .cons c cs, _, _, e => by
    simp only [evEs, Option.bind_eq_some_iff, Option.map_eq_some_iff] at e
    obtain ⟨r, e1, rs', e2, rfl⟩ := e
    simp [esLen, evEs_len e2]
theorem i_tup {k : Nat} (h : IA X fn es cs) (hl : esLen cs ≤ 1000 := by decide) : IE X fn (.Tuple es k pos) (.tup cs) :=
  .mk <| (pe_tup h.h).imp fun σ H Q ⟨W, ρ, r, hR, he, q⟩ => by
    simp only [evE, Option.bind_eq_some_iff, Option.map_eq_some_iff] at he
    obtain ⟨rs, e1, ds, e2, rfl⟩ := he
    refine ⟨W, ρ, rs, hR, e1, fun vs H1 s1 f => ?_⟩
    have r1 := frz_toDs f e2
    have l1 := r1.length
    have l2 := reps_len (K := X.K) (W := W) (H := H) e2
    have l3 := evEs_len e1
    exact ⟨Nat.le_of_lt (small1000 (by omega)), fun p hp => q _ _ (s1.trans (same_upd hp _)) ((res_tup hp r1).back s1)⟩
theorem i_lst (h : IA X fn es cs) (hl : esLen cs ≤ 1000 := by decide) : IE X fn (.List es pos) (.lst cs) :=
  .mk <| (pe_lst h.h).imp fun σ H Q ⟨W, ρ, r, hR, he, q⟩ => by
    simp only [evE, Option.bind_eq_some_iff, Option.map_eq_some_iff] at he
    obtain ⟨rs, e1, ds, e2, rfl⟩ := he
    refine ⟨W, ρ, rs, hR, e1, fun vs H1 s1 f => ?_⟩
    have r1 := frz_toDs f e2
    have l1 := r1.length
    have l2 := reps_len (K := X.K) (W := W) (H := H) e2
    have l3 := evEs_len e1
    exact ⟨Nat.le_of_lt (small1000 (by omega)), fun p hp => q _ _ (s1.trans (same_upd hp _)) ((res_new hp r1).back s1)⟩
theorem i_one {op : BoolOp} (h : IE X fn a ca) : IE X fn (.BoolOp op [a] pos) ca := .mk (pe_one h.h)
theorem i_and {rest : List Expr} (ha : IE X fn a ca) (hb : IE X fn (.BoolOp .And (b :: rest) pos) cb) : IE X fn (.BoolOp .And (a :: b :: rest) pos) (.and ca cb) :=
  .mk <| (pe_and ha.h hb.h).imp fun σ H Q ⟨W, ρ, r, hR, he, q⟩ => by
    simp only [evE, Option.bind_eq_some_iff] at he
    obtain ⟨r1, e1, e2⟩ := he
    refine ⟨W, ρ, r1, hR, e1, fun v H1 s1 f => ?_⟩
    split at e2
    · cases f with
      | val h =>
        cases h
        exact ⟨true, rfl, by rw [if_pos rfl]; exact ⟨W, ρ, r, hR.same s1, e2, fun v H2 s2 h => q v H2 (s1.trans s2) (h.back s1)⟩⟩
    · cases f with
      | val h =>
        cases h; cases e2
        exact ⟨false, rfl, by rw [if_neg Bool.false_ne_true]; exact q _ H1 s1 (.val (.bl false))⟩
    · cases e2
theorem i_ite (hc : IT X fn c cc) (ha : IE X fn a ca) (hb : IE X fn b cb) : IE X fn (.IfExp c a b pos) (.ite cc ca cb) :=
  .mk <| (pe_ifExp hc.h ha.h hb.h).imp fun σ H Q ⟨W, ρ, r, hR, he, q⟩ => by
    simp only [evE, Option.bind_eq_some_iff] at he
    obtain ⟨k, e1, e2⟩ := he
    refine ⟨W, ρ, k, hR, e1, fun H1 s1 => ?_⟩
    cases k with
    | true => rw [if_pos rfl] at e2 ⊢; exact ⟨W, ρ, r, hR.same s1, e2, fun v H2 s2 h => q v H2 (s1.trans s2) (h.back s1)⟩
    | false => rw [if_neg Bool.false_ne_true] at e2 ⊢; exact ⟨W, ρ, r, hR.same s1, e2, fun v H2 s2 h => q v H2 (s1.trans s2) (h.back s1)⟩
theorem i_chain {op op' : CmpOp} {p q : Prim} (ho : OpR X (compareOp op) (VR2 X.K (primD p))) (ho' : OpR X (compareOp op') (VR2 X.K (primD q))) (ha : IE X fn a ca) (hb : IE X fn b cb) (hc : IE X fn c cc)
    (hm : lastMarks [op, op'] [b, c] = false := by with_unfolding_all rfl) : IE X fn (.Compare a [op, op'] [b, c] pos) (.chain p q ca cb cc) :=
  .mk <| (pe_chain ho ho' ha.v hb.v hc.v hm).imp fun σ H Q ⟨W, ρ, r, hR, he, hq⟩ => by
    simp only [evE, Option.bind_eq_some_iff] at he
    obtain ⟨r1, e1, r2, e2, z, e3, e4⟩ := he
    refine ⟨W, ρ, r1, hR, e1, fun v1 H1 s1 f1 => ⟨W, ρ, r2, hR.same s1, e2, fun v2 H2 s2 f2 => ?_⟩⟩
    refine ⟨W, _, z, hR.wf' (s1.trans s2), .cons (f1.same s2).sees (.cons f2.sees .nil), e3, fun v H3 s3 h3 => ?_⟩
    split at e4
    · cases h3 with
      | val h3 =>
        cases h3
        simp only [Option.bind_eq_some_iff] at e4
        obtain ⟨r3, e5, e6⟩ := e4
        refine ⟨true, rfl, ?_⟩
        rw [if_pos rfl]
        have s13 := (s1.trans s2).trans s3
        refine ⟨W, ρ, r3, hR.same s13, e5, fun v4 H4 s4 f4 => ?_⟩
        exact ⟨W, _, r, hR.wf' (s13.trans s4), .cons ((f2.same s3).same s4).sees (.cons f4.sees .nil), e6, fun v5 H5 s5 h5 => hq v5 H5 (s13.trans (s4.trans s5)) (h5.back (s13.trans s4))⟩
    · cases h3 with
      | val h3 =>
        cases h3; cases e4
        exact ⟨false, rfl, by rw [if_neg Bool.false_ne_true]; exact hq _ H3 ((s1.trans s2).trans s3) (.val (.bl false))⟩
    · cases e4
theorem IW.t (h : IW X fn e ce) : IT X fn e ce := .mk (PW.pt h.h)
theorem t_or1 (h : IT X fn a ca) : IW X fn (.BoolOp .Or [a] pos) ca := .mk (pw_or1 h.h)
theorem t_or {rest : List Expr} (ha : IT X fn a ca) (hb : IW X fn (.BoolOp .Or (b :: rest) pos) cb) : IW X fn (.BoolOp .Or (a :: b :: rest) pos) (.or ca cb) :=
  .mk <| (pw_or ha.h hb.h).imp fun σ H Q ⟨W, ρ, k, hR, he, q⟩ => by
    simp only [evT, Option.bind_eq_some_iff] at he
    obtain ⟨k1, e1, e2⟩ := he
    refine ⟨W, ρ, k1, hR, e1, fun H1 s1 => ?_⟩
    cases k1 with
    | true => rw [if_pos rfl] at e2 ⊢; cases e2; exact q H1 s1
    | false => rw [if_neg Bool.false_ne_true] at e2 ⊢; exact ⟨W, ρ, k, hR.same s1, e2, fun H2 s2 => q H2 (s1.trans s2)⟩
theorem t_not (ha : IT X fn a ca) : IT X fn (.UnaryOp .Not a pos) (.not ca) :=
  .mk <| (pt_not ha.h).imp fun σ H Q ⟨W, ρ, k, hR, he, q⟩ => by
    simp only [evT, Option.map_eq_some_iff] at he
    obtain ⟨k1, e1, rfl⟩ := he
    exact ⟨W, ρ, k1, hR, e1, fun H1 s1 => q H1 s1⟩
noncomputable def boolish : Prim → Bool
  | .eq => true | .ne => true | .lt => true | .le => true | .gt => true | .ge => true | .inn => true | .nin => true | .isN => true | .notN => true | .eqS => true | .neS => true
  | _ => false
theorem okBl_is {b : Bool} {r : SV} (h : okBl b = some r) : r = .val (.bl b) := by cases h; rfl
theorem boolish_is {p : Prim} (hp : boolish p = true) {ds : List D} {r : SV} (h : primD p ds = some r) : ∃ b, r = .val (.bl b) := by
  cases p <;> first | cases hp | skip
  all_goals
    simp only [primD] at h
    first | unfold pEqS at h | unfold pNeS at h | unfold pEq at h | unfold pNe at h | unfold pLt at h | unfold pLe at h | unfold pGt at h | unfold pGe at h | unfold pIn at h | unfold pNin at h | unfold pIsN at h | unfold pNotN at h
    split at h
    all_goals first
      | exact ⟨_, okBl_is h⟩
      | cases h
      | (split at h <;> first | exact ⟨_, okBl_is h⟩ | cases h)
      | (simp only [Option.bind_eq_some_iff] at h; obtain ⟨_, _, _, _, h⟩ := h; exact ⟨_, okBl_is h⟩)
theorem t_cmp {op : CmpOp} {pr : Prim} (hp : boolish pr = true) (ho : OpR X (compareOp op) (VR2 X.K (primD pr))) (ha : IE X fn a ca) (hb : IE X fn b cb) (hm : behindInMarks op b = false) : IT X fn (.Compare a [op] [b] pos) (.prim pr (.cons ca (.cons cb .nil))) :=
  .mk <| (pt_cmpR ho ha.v hb.v hm).imp fun σ H Q ⟨W, ρ, k, hR, he, q⟩ => by
    have he' : (evE fn (.prim pr (.cons ca (.cons cb .nil))) ρ).bind truth = some k := by
      rw [evT] at he
      rw [evE]
      simp only [Option.bind_eq_some_iff] at he ⊢
      obtain ⟨rs, e1, r, e2, e3⟩ := he
      exact ⟨r, ⟨rs, e1, e2⟩, e3⟩
    rw [Option.bind_eq_some_iff] at he'
    obtain ⟨r, e1, e2⟩ := he'
    have e1' := e1
    rw [evE] at e1'
    simp only [Option.bind_eq_some_iff] at e1'
    obtain ⟨rs, _, e3⟩ := e1'
    obtain ⟨b, rfl⟩ := boolish_is hp e3
    simp only [truth] at e2
    cases e2
    exact two_vr hR e1 fun v H' s h => by
      cases h with
      | val h => cases h; exact ⟨_, rfl, q H' s⟩
theorem t_chain {op op' : CmpOp} {p q : Prim} (hp : boolish p = true) (hq' : boolish q = true) (ho : OpR X (compareOp op) (VR2 X.K (primD p))) (ho' : OpR X (compareOp op') (VR2 X.K (primD q))) (ha : IE X fn a ca) (hb : IE X fn b cb) (hc : IE X fn c cc)
    (hm : lastMarks [op, op'] [b, c] = false := by with_unfolding_all rfl) : IT X fn (.Compare a [op, op'] [b, c] pos) (.chain p q ca cb cc) :=
  .mk <| (pt_chain ho ho' ha.v hb.v hc.v hm).imp fun σ H Q ⟨W, ρ, k, hR, he, hq⟩ => by
    simp only [evT, Option.bind_eq_some_iff] at he
    obtain ⟨r1, e1, r2, e2, z, e3, e4⟩ := he
    refine ⟨W, ρ, r1, hR, e1, fun v1 H1 s1 f1 => ⟨W, ρ, r2, hR.same s1, e2, fun v2 H2 s2 f2 => ?_⟩⟩
    refine ⟨W, _, z, hR.wf' (s1.trans s2), .cons (f1.same s2).sees (.cons f2.sees .nil), e3, fun v H3 s3 h3 => ?_⟩
    split at e4
    · cases h3 with
      | val h3 =>
        cases h3
        simp only [Option.bind_eq_some_iff] at e4
        obtain ⟨r3, e5, r4, e6, e7⟩ := e4
        refine ⟨true, rfl, ?_⟩
        rw [if_pos rfl]
        have s13 := (s1.trans s2).trans s3
        refine ⟨W, ρ, r3, hR.same s13, e5, fun v4 H4 s4 f4 => ?_⟩
        refine ⟨W, _, r4, hR.wf' (s13.trans s4), .cons ((f2.same s3).same s4).sees (.cons f4.sees .nil), e6, fun v5 H5 s5 h5 => ?_⟩
        obtain ⟨b5, rfl⟩ := boolish_is hq' e6
        simp only [truth] at e7
        cases e7
        cases h5 with
        | val h5 => cases h5; exact ⟨_, rfl, hq H5 (s13.trans (s4.trans s5))⟩
    · cases h3 with
      | val h3 =>
        cases h3; cases e4
        exact ⟨false, rfl, by rw [if_neg Bool.false_ne_true]; exact ⟨false, rfl, hq H3 ((s1.trans s2).trans s3)⟩⟩
    · cases e4
theorem truth_v {K : PySem.W.Frag} {W : Addr → Prop} {H : Hp} {r : SV} {v : V} {k : Bool} (f : Frz K W H r v) (h : truth r = some k) : TruV K v H k := by
  unfold truth at h
  split at h
  · cases h; cases f with | val f => cases f; rfl
  · cases h; cases f with | val f => cases f; rfl
  · cases h; cases f with | val f => cases f; rfl
  · rename_i l
    cases h
    obtain ⟨a, xs, rfl, hq, rp⟩ := Frz.sees f |>.tup
    refine .inr (.inl ⟨xs, hq, ?_⟩)
    cases rp <;> rfl
  · cases h
    obtain ⟨a, xs, rfl, hq, rp⟩ := Frz.sees f |>.lst
    refine .inl ⟨xs, hq, ?_⟩
    cases rp <;> rfl
  · cases h
    obtain ⟨a, xs, rfl, hq, rp⟩ := Frz.sees f |>.lst
    refine .inl ⟨xs, hq, ?_⟩
    cases rp <;> rfl
  · cases h
theorem t_val (hE : IE X fn e ce) (hev : ∀ ρ, evT fn ce ρ = (evE fn ce ρ).bind truth) (he : ∀ whole, isTrue e X.env whole = (do let v ← whole; standAt e.pos; holding [v] (truthy v)) := by intro _; rfl) : IT X fn e ce :=
  .mk <| (pt_truth hE.v he).imp fun σ H Q ⟨W, ρ, k, hR, ht, q⟩ => by
    rw [hev, Option.bind_eq_some_iff] at ht
    obtain ⟨r, e1, e2⟩ := ht
    exact ⟨W, ρ, r, hR, e1, fun v H1 s1 f => ⟨k, truth_v f e2, q H1 s1⟩⟩
theorem ev_var (i : Nat) : ∀ ρ, evT fn (.var i) ρ = (evE fn (.var i) ρ).bind truth := fun ρ => by rw [evT, evE]
theorem ev_prim (p : Prim) (cs : Es) : ∀ ρ, evT fn (.prim p cs) ρ = (evE fn (.prim p cs) ρ).bind truth := fun ρ => by rw [evT, evE, Option.bind_assoc]
theorem ev_call (f : Nat) (cs : Es) : ∀ ρ, evT fn (.call f cs) ρ = (evE fn (.call f cs) ρ).bind truth := fun ρ => by rw [evT, evE, Option.bind_assoc]
end
end L2.LW
set_option linter.all false
set_option maxHeartbeats 4000000
namespace L2.LW
open PySem PySem.Spec PyProof.Rows
noncomputable def spI (K : PySem.W.Frag) (fn : Nat → List D → Option SV) (i : Nat) : Sp := fun vs H Q _ => ∃ W ds r, Wf W H ∧ Reps K W H ds vs ∧ fn i ds = some r ∧ ∀ v H', Same H H' → Res K W H H' r v → Q v H'
structure ARep (K : PySem.W.Frag) (W : Addr → Prop) (H : Hp) (io : List Nat) (ds : List D) (vs : List V) : Prop where
  len : ds.length = vs.length
  val : ∀ (k : Nat) (d : D), ds[k]? = some d → k ∉ io → ∃ v, vs[k]? = some v ∧ Rep K W H d v
  obj : ∀ (k : Nat) (d : D), ds[k]? = some d → k ∈ io → ∃ a o, vs[k]? = some (.ref a) ∧ W a ∧ H a = some o ∧ ORep K W H d o
  inj : ∀ (j k : Nat) (a : Addr), j ∈ io → k ∈ io → vs[j]? = some (.ref a) → vs[k]? = some (.ref a) → j = k
noncomputable def ioV (io : List Nat) (vs : List V) (a : Addr) : Prop := ∃ k ∈ io, vs[k]? = some (.ref a)
noncomputable def Outs (K : PySem.W.Frag) (W : Addr → Prop) (H : Hp) (io : List Nat) (vs : List V) (outs : List D) : Prop :=
  Paired (fun k d => ∃ a o, vs[k]? = some (.ref a) ∧ H a = some o ∧ ORep K W H d o) io outs
noncomputable def spA (K : PySem.W.Frag) (fa : Nat → List D → Option Ans) (i : Nat) (io : List Nat) : Sp := fun vs H Q _ => ∃ W ds r outs, Wf W H ∧ ARep K W H io ds vs ∧ fa i ds = some (.ok r outs) ∧
  ∀ v H', (∀ a o, H a = some o → ¬ ioV io vs a → H' a = some o) → Outs K W H' io vs outs → Res K W H H' r v → Q v H'
theorem Reps.get' {K : PySem.W.Frag} {W : Addr → Prop} {H : Hp} {ds : List D} {vs : List V} (r : Reps K W H ds vs) : ARep K W H [] ds vs :=
  ⟨r.length, fun k d h _ => r.get h, fun k d _ h => (by cases h), fun j k a h => (by cases h)⟩
theorem prj_some {fa : Nat → List D → Option Ans} {i : Nat} {ds : List D} {r : SV} (h : prj fa i ds = some r) : fa i ds = some (.ok r []) := by
  unfold prj at h
  split at h
  · rename_i r' e; cases h; exact e
  · cases h
theorem pure_ok {Pg : Program} {w : World} {K : PySem.W.Frag} {mg : Str → Option Value} {base : Heap} {k : Nat} {f : Addr} {fd : FuncData} {ps : List Str} {fa : Nat → List D → Option Ans} {i : Nat} {io : List Nat}
    (F : FnOk Pg w K mg base CX0 k f fd ps (spA K fa i io)) (h : io = []) : FnOk Pg w K mg base CX0 k f fd ps (spI K (prj fa) i) := by
  subst h
  exact F.imp fun vs H Q E ⟨W, ds, r, wf, rp, e, q⟩ => ⟨W, ds, r, [], wf, rp.get', prj_some e, fun v H' k _ res => q v H' (fun a o h => k a o h fun ⟨_, z, _⟩ => by cases z) res⟩
theorem frz_lent {K : PySem.W.Frag} {W : Addr → Prop} {H : Hp} : ∀ {rs : List SV} {vs : List V}, Paired (Frz K W H) rs vs → rs.any SV.lent = false → Reps K W H (rs.map seeD) vs
  | _, _, .nil, _ => .nil
  | _, _, .cons h t, e => by
    simp only [List.any_cons, Bool.or_eq_false_iff] at e
    refine .cons ?_ (frz_lent t e.2)
    cases h with
    | val h => exact h
    | lis h e' r => exact r.rep h e'
    | see h e' r => simp [SV.lent] at e
theorem frz_all {K : PySem.W.Frag} {W : Addr → Prop} {H : Hp} : ∀ {rs : List SV} {vs : List V}, Paired (Frz K W H) rs vs → Reps K (fun _ => False) H (rs.map seeD) vs
  | _, _, .nil => .nil
  | _, _, .cons h t => by
    refine .cons ?_ (frz_all t)
    cases h with
    | val h => exact h.less fun _ z => z.elim
    | lis h e' r => exact (r.less fun _ z => z.elim).rep (fun z => z) e'
    | see h e' r => exact (r.less fun _ z => z.elim).rep (fun z => z) e'
theorem Res.plain {K : PySem.W.Frag} {W W' : Addr → Prop} {H H' : Hp} {r : SV} {v : V} (h : Res K W' H H' r v) (wf : ∀ a, W' a → W a) (p : r.plain = true) : Res K W H H' r v := by
  cases h with
  | val h => exact .val (h.plain p)
  | new h e r => exact .new h e (r.plain p)
  | see h e r => exact .see (wf _ h) e (r.plain p)
section
variable {X : Cx} {fn : Nat → List D → Option SV} {fuel : Nat} {a b c e : Expr} {ca cb cc ce : E} {es : List Expr} {cs : Es} {pos p : Pos} {x : Str}
theorem i_call {k : Nat} {f : Addr} {fd : FuncData} {ps : List Str} {i : Nat} (F : FnOk X.prog X.w X.K X.mg X.base CX0 k f fd ps (spI X.K fn i)) (hr : Room k X.A) (hg : Gl X x) (hm : X.mg x = some (.ref f)) (hk : PySem.W.keepIn X.K (.ref f) = true)
    (hb : Binds X.K fd ps []) (ha : IA X fn (e :: es) cs) (hdb : (x == ("__debug__" : Str)) = false := by decide) (he : starEach (e :: es) X.env = (false, eval e X.env) :: starEach es X.env := by rfl)
    (hpl : (backTo pos (starEach es X.env)).any (·.1) = false := by rfl) : IE X fn (.Call (.Name x p) (e :: es) [] pos) (.call i cs) :=
  .mk <| (pe_call F hr hg hm hk hb .nil pass0 ha.h hdb he hpl).imp fun σ H Q ⟨W, ρ, r, hR, h, q⟩ => by
    simp only [evE, Option.bind_eq_some_iff, callR] at h
    obtain ⟨rs, e1, r', e2, e3⟩ := h
    split at e3
    · cases e3
    · rename_i hc
      cases e3
      refine ⟨W, ρ, rs, hR, e1, fun vs H1 s1 f => ?_⟩
      show spI X.K fn i (vs ++ []) H1 Q E0
      rw [List.append_nil]
      cases hl : rs.any SV.lent with
      | false => exact ⟨W, _, r, hR.wf' s1, frz_lent f hl, e2, fun v H' s2 h => q v H' (s1.trans s2) (h.back s1)⟩
      | true =>
        have hp : r.plain = true := by
          cases hp : r.plain with
          | true => rfl
          | false => exact absurd (by rw [hl, hp]; rfl) hc
        exact ⟨fun _ => False, _, r, fun _ z => z.elim, frz_all f, e2, fun v H' s2 h => q v H' (s1.trans s2) ((h.plain (fun _ z => z.elim) hp).back s1)⟩
section
variable {K : PySem.W.Frag} {W : Addr → Prop} {ρ : LW.Env} {σ : St} {H H' : Hp} {i j : Nat} {d : D} {v : V}
theorem set_get {α : Type} {l : List α} {i j : Nat} {x y : α} (h : (l.set i x)[j]? = some y) : (i = j ∧ y = x ∧ j < l.length) ∨ (i ≠ j ∧ l[j]? = some y) := by
  rw [List.getElem?_set] at h
  split at h
  · rename_i e
    subst e
    split at h
    · cases h; exact .inl ⟨rfl, rfl, by assumption⟩
    · cases h
  · exact .inr ⟨by assumption, h⟩
theorem get_set {α : Type} {l : List α} {i : Nat} {x : α} (h : i < l.length) : (l.set i x)[i]? = some x := by simp [h]
theorem get_set_ne {α : Type} {l : List α} {i j : Nat} {x : α} (h : i ≠ j) : (l.set i x)[j]? = l[j]? := List.getElem?_set_ne h
theorem R.set_val (r : R K W ρ σ H) (h : Rep K W H d v) : R K W (ρ.set i (some (.val d))) (σ.set i (some v)) H := by
  refine ⟨fun j e hj => ?_, fun j e hj => ?_, fun j x e hj hc => ?_, fun j k x y e1 e2 a h1 h2 c1 c2 h3 h4 => ?_, r.wf, by simpa using r.len⟩
  · rcases set_get hj with ⟨rfl, z, hl⟩ | ⟨n, z⟩
    · cases z
      exact ⟨v, get_set (by rw [← r.len]; exact hl), h⟩
    · obtain ⟨u, h1, h2⟩ := r.val j e z
      exact ⟨u, by rw [get_set_ne n]; exact h1, h2⟩
  · rcases set_get hj with ⟨rfl, z, hl⟩ | ⟨n, z⟩
    · cases z
    · exact r.nol j e z
  · rcases set_get hj with ⟨rfl, z, hl⟩ | ⟨n, z⟩
    · cases z; cases hc
    · obtain ⟨a, o, h1, h2⟩ := r.own j x e z hc
      exact ⟨a, o, by rw [get_set_ne n]; exact h1, h2⟩
  · rcases set_get h1 with ⟨rfl, z, hl⟩ | ⟨n, z⟩
    · cases z; cases c1
    · rcases set_get h2 with ⟨rfl, z', hl⟩ | ⟨n', z'⟩
      · cases z'; cases c2
      · rw [get_set_ne n] at h3
        rw [get_set_ne n'] at h4
        exact r.inj j k x y e1 e2 a z z' c1 c2 h3 h4
theorem own_set_val {a : Addr} (h : Own (ρ.set i (some (.val d))) (σ.set i (some v)) a) : Own ρ σ a := by
  obtain ⟨j, x, e, h1, hc, h2⟩ := h
  rcases set_get h1 with ⟨rfl, z, hl⟩ | ⟨n, z⟩
  · cases z; cases hc
  · rw [get_set_ne n] at h2
    exact ⟨j, x, e, z, hc, h2⟩
theorem io_set {x : SV} (hx : ∀ d, x ≠ .io d) (hf : ¬ isIo ρ i) (j : Nat) : (isIo (ρ.set i (some x)) j ↔ isIo ρ j) ∧ (isIo ρ j → i ≠ j) := by
  refine ⟨⟨fun ⟨d, h⟩ => ?_, fun ⟨d, h⟩ => ?_⟩, fun h e => hf (by rw [e]; exact h)⟩
  · rcases set_get h with ⟨rfl, z, hl⟩ | ⟨n, z⟩
    · cases z; exact absurd rfl (hx d)
    · exact ⟨d, z⟩
  · exact ⟨d, by rw [get_set_ne (fun e => hf (by rw [e]; exact ⟨d, h⟩))]; exact h⟩
theorem post_set_val (r : R K W ρ σ H) (s : Same H H') (h : Rep K W H' d v) (hf : ¬ isIo ρ i) : SPost K W ρ σ H W (ρ.set i (some (.val d))) (σ.set i (some v)) H' :=
  ⟨(r.same s).set_val h, fun a o q _ => s a o q, fun a w => .inl w, fun a w n => ⟨w, fun z => n (own_set_val z)⟩, fun j => ⟨(io_set (x := .val d) (fun _ z => (nomatch z)) hf j).1, fun z => get_set_ne ((io_set (x := .val d) (fun _ z => (nomatch z)) hf j).2 z)⟩⟩
theorem add_wf {a : Addr} (wf : Wf W H) (s : Same H H') {o : HO} (e : H' a = some o) : Wf (add W a) H' := fun b w => by
  rcases w with w | rfl
  · cases q : H b with
    | none => exact absurd q (wf b w)
    | some u => rw [s b u q]; exact fun z => nomatch z
  · rw [e]; exact fun z => nomatch z
theorem add_ext {a : Addr} (s : Same H H') (h : H a = Option.none) : Ext W H (add W a) H' :=
  ⟨fun b o q _ => s b o q, fun b xs q => s b _ q, fun b o u q => s b _ q, fun b w => by
    rcases w with w | rfl
    · exact .inl w
    · exact .inr h⟩
theorem R.add {a : Addr} {o : HO} (r : R K W ρ σ H) (s : Same H H') (h : H a = Option.none) (e : H' a = some o) : R K (LW.add W a) ρ σ H' := by
  refine ⟨fun j d hj => ?_, r.nol, fun j x d hj hc => ?_, r.inj, add_wf r.wf s e, r.len⟩
  · obtain ⟨u, h1, h2⟩ := r.val j d hj
    exact ⟨u, h1, h2.ext (add_ext s h)⟩
  · obtain ⟨b, o, h1, h2, h3, h4⟩ := r.own j x d hj hc
    exact ⟨b, o, h1, .inl h2, s _ _ h3, h4.ext (add_ext s h)⟩
theorem R.noOwn {a : Addr} (r : R K W ρ σ H) (h : H a = Option.none) : ¬ Own ρ σ a := fun z => by
  obtain ⟨_, o, d, e, _⟩ := r.ownW z
  rw [h] at e; cases e
theorem post_set_new {a : Addr} {o : HO} (r : R K W ρ σ H) (s : Same H H') (h : H a = Option.none) (e : H' a = some o) (rp : ORep K (LW.add W a) H' d o) (hf : ¬ isIo ρ i) :
    SPost K W ρ σ H (LW.add W a) (ρ.set i (some (.obj true d))) (σ.set i (some (.ref a))) H' := by
  have ra := r.add s h e
  refine ⟨⟨fun j d hj => ?_, fun j d hj => ?_, fun j x es hj hc => ?_, fun j k x y e1 e2 b h1 h2 c1 c2 h3 h4 => ?_, ra.wf, by simpa using r.len⟩, fun b o q _ => s b o q, (add_ext (W := W) s h).win, fun b w n => ⟨.inl w, fun z => ?_⟩,
    fun j => ⟨(io_set (x := .obj true d) (fun _ z => (nomatch z)) hf j).1, fun z => get_set_ne ((io_set (x := .obj true d) (fun _ z => (nomatch z)) hf j).2 z)⟩⟩
  · rcases set_get hj with ⟨rfl, z, hl⟩ | ⟨n, z⟩
    · cases z
    · obtain ⟨u, h1, h2⟩ := ra.val j d z
      exact ⟨u, by rw [get_set_ne n]; exact h1, h2⟩
  · rcases set_get hj with ⟨rfl, z, hl⟩ | ⟨n, z⟩
    · cases z
    · exact r.nol j d z
  · rcases set_get hj with ⟨rfl, z, hl⟩ | ⟨n, z⟩
    · cases z; cases hc
      exact ⟨a, o, get_set (by rw [← r.len]; exact hl), .inr rfl, e, rp⟩
    · obtain ⟨b, ys, h1, h2⟩ := ra.own j x es z hc
      exact ⟨b, ys, by rw [get_set_ne n]; exact h1, h2⟩
  · have other : ∀ {k : Nat} {x : SV} {e : D}, ρ[k]? = some (some x) → x.cell = some e → σ[k]? = some (some (.ref a)) → False := fun {k x e} q1 q3 q2 => r.noOwn h ⟨k, x, e, q1, q3, q2⟩
    rcases set_get h1 with ⟨rfl, z, hl⟩ | ⟨n, z⟩
    · rcases set_get h2 with ⟨rfl, _, _⟩ | ⟨n', z'⟩
      · rfl
      · rw [get_set (by rw [← r.len]; exact hl)] at h3
        cases h3
        rw [get_set_ne n'] at h4
        exact (other z' c2 h4).elim
    · rcases set_get h2 with ⟨rfl, z', hl⟩ | ⟨n', z'⟩
      · rw [get_set (by rw [← r.len]; exact hl)] at h4
        cases h4
        rw [get_set_ne n] at h3
        exact (other z c1 h3).elim
      · rw [get_set_ne n] at h3
        rw [get_set_ne n'] at h4
        exact r.inj j k x y e1 e2 b z z' c1 c2 h3 h4
  · obtain ⟨j, x, es, h1, hc, h2⟩ := z
    rcases set_get h1 with ⟨rfl, _, hl⟩ | ⟨n', z'⟩
    · rw [get_set (by rw [← r.len]; exact hl)] at h2
      cases h2
      exact r.wf _ w h
    · rw [get_set_ne n'] at h2
      exact n ⟨j, x, es, z', hc, h2⟩
noncomputable def del (W : Addr → Prop) (a : Addr) : Addr → Prop := fun b => W b ∧ b ≠ a
theorem put_cell (x : SV) (d : D) : (x.put d).cell = some d := by cases x <;> rfl
theorem put_val (x : SV) (d d' : D) : x.put d ≠ .val d' := by cases x <;> exact fun z => nomatch z
theorem put_obj (x : SV) (d d' : D) : x.put d ≠ .obj false d' := by
  cases x <;> intro z <;> first | cases z | (simp [SV.put] at z)
theorem put_io {x : SV} {d : D} : (∃ d', x.put d = .io d') ↔ ∃ d', x = .io d' := by
  cases x with
  | io y => exact ⟨fun _ => ⟨_, rfl⟩, fun _ => ⟨_, rfl⟩⟩
  | _ => exact ⟨fun ⟨_, z⟩ => (nomatch z), fun ⟨_, z⟩ => (nomatch z)⟩
theorem post_put {a : Addr} {x : SV} {d0 d' : D} {o o' : HO} (r : R K W ρ σ H) (h : ρ[i]? = some (some x)) (hc : x.cell = some d0) (h' : σ[i]? = some (some (.ref a))) (s : Same H H') (e : H' a = some o) (hk : (∀ xs, o ≠ .tup xs) ∧ (∀ b u, o ≠ .frz b u))
    (rp : ORep K W H' d' o') : SPost K W ρ σ H W (ρ.set i (some (x.put d'))) σ (upd H' a o') := by
  have r' := r.same s
  have hO : Own ρ σ a := ⟨i, x, d0, h, hc, h'⟩
  have hW : W a := (r.ownW hO).1
  have ext : Ext W H' W (upd H' a o') := by
    refine ⟨fun b o q n => ?_, fun b ys q => ?_, fun b o u q => ?_, fun b w => .inl w⟩
    · rw [upd_ne (fun z => n (by rw [z]; exact hW))]; exact q
    · rw [upd_ne (fun z => by rw [z, e] at q; cases q; exact hk.1 _ rfl)]; exact q
    · rw [upd_ne (fun z => by rw [z, e] at q; cases q; exact hk.2 _ _ rfl)]; exact q
  have old : ∀ {k : Nat} {y : SV} {es : D}, (ρ.set i (some (x.put d')))[k]? = some (some y) → y.cell = some es → ∃ y' es', ρ[k]? = some (some y') ∧ y'.cell = some es' := fun {k y es} q c => by
    rcases set_get q with ⟨rfl, _, _⟩ | ⟨_, z⟩
    · exact ⟨_, _, h, hc⟩
    · exact ⟨_, _, z, c⟩
  refine ⟨⟨fun k d' hk => ?_, fun k d' hk => ?_, fun k y es hk hc' => ?_, fun k l x y e1 e2 b h1 h2 c1 c2 h3 h4 => ?_, fun b w => ?_, by simpa using r.len⟩, fun b o q n => ?_, fun b w => .inl w, fun b w n => ⟨w, fun z => ?_⟩, fun j => ⟨?_, fun _ => rfl⟩⟩
  · rcases set_get hk with ⟨rfl, z, hl⟩ | ⟨n, z⟩
    · exact absurd (Option.some.inj z).symm (put_val _ _ _)
    · obtain ⟨u, h1, h2⟩ := r'.val k d' z
      exact ⟨u, h1, h2.ext ext⟩
  · rcases set_get hk with ⟨rfl, z, hl⟩ | ⟨n, z⟩
    · exact absurd (Option.some.inj z).symm (put_obj _ _ _)
    · exact r.nol k d' z
  · rcases set_get hk with ⟨rfl, z, hl⟩ | ⟨n, z⟩
    · cases z
      rw [put_cell] at hc'
      cases hc'
      exact ⟨a, _, h', hW, upd_same, rp.ext ext⟩
    · obtain ⟨b, ys, h1, h2, h3, h4⟩ := r'.own k y es z hc'
      refine ⟨b, ys, h1, h2, ?_, h4.ext ext⟩
      rw [upd_ne (fun z' => by subst z'; exact n (r.inj i k x y d0 es b h z hc hc' h' h1))]
      exact h3
  · obtain ⟨_, _, z1, w1⟩ := old h1 c1
    obtain ⟨_, _, z2, w2⟩ := old h2 c2
    exact r.inj k l _ _ _ _ b z1 z2 w1 w2 h3 h4
  · by_cases z : b = a
    · subst z; rw [upd_same]; exact fun z => nomatch z
    · rw [upd_ne z]; exact r'.wf b w
  · rw [upd_ne (fun z => n (by rw [z]; exact hO))]
    exact s b o q
  · obtain ⟨k, y, es, h1, hc', h2⟩ := z
    obtain ⟨_, _, z, w⟩ := old h1 hc'
    exact n ⟨k, _, _, z, w, h2⟩
  · by_cases e : i = j
    · subst e
      have hl : i < ρ.length := by
        obtain ⟨z, _⟩ := List.getElem?_eq_some_iff.mp h; exact z
      constructor
      · rintro ⟨d', z⟩
        rw [get_set hl] at z
        have z := Option.some.inj (Option.some.inj z)
        obtain ⟨d2, w⟩ := put_io.mp ⟨d', z⟩
        exact ⟨d2, by rw [h, w]⟩
      · rintro ⟨d2, z⟩
        rw [h] at z
        obtain ⟨d3, w⟩ := put_io (d := d').mpr ⟨d2, Option.some.inj (Option.some.inj z)⟩
        exact ⟨d3, by rw [get_set hl, w]⟩
    · unfold isIo; rw [get_set_ne e]
end
theorem Ret.back {K : PySem.W.Frag} {W W1 W2 : Addr → Prop} {ρ ρ1 : LW.Env} {σ σ1 : St} {H H1 H2 : Hp} {r : SV} {v : V} (p : SPost K W ρ σ H W1 ρ1 σ1 H1) (h : Ret K W1 ρ1 σ1 W2 H2 r v) : Ret K W ρ σ W2 H2 r v := by
  cases h with
  | val h => exact .val h
  | new h n n' e r => exact .new h (fun ⟨w, z⟩ => n (p.wout _ w z)) (fun ⟨i, z1, z2⟩ => n' ⟨i, (p.io i).1.mpr z1, by rw [(p.io i).2 z1]; exact z2⟩) e r
theorem FlOk.back {K : PySem.W.Frag} {W W1 W2 : Addr → Prop} {ρ ρ1 ρ2 : LW.Env} {σ σ1 σ2 : St} {H H1 H2 : Hp} {D : Ends} {fl : Fl} (p : SPost K W ρ σ H W1 ρ1 σ1 H1) (h : FlOk K W ρ σ W2 ρ2 σ2 H2 D fl) : FlOk K W1 ρ1 σ1 W2 ρ2 σ2 H2 D fl := by
  cases fl with
  | rt r => exact fun v q => h v (q.back p)
  | _ => exact h
structure IS (X : Cx) (ex : LW.Env → Option (Fl × LW.Env)) (st : Stmt) : Prop where
  h : PS X st (tSs X.K ex)
structure ISs (X : Cx) (ex : LW.Env → Option (Fl × LW.Env)) (st : List Stmt) : Prop where
  h : PSs X st (tSs X.K ex)
variable {fa : Nat → List D → Option Ans} {st : Stmt} {sts : List Stmt} {s : S} {ss s1 s2 : Ss}
theorem ss_nil : ISs X (exSs fa fuel .nil) [] := .mk <| pss_nil.imp fun D σ H ⟨W, ρ, x, hR, hx, q⟩ => by
  simp only [exSs] at hx; cases hx; exact q W σ H (.same hR (.refl H))
theorem ss_cons (h1 : IS X (exS fa fuel s) st) (h2 : ISs X (exSs fa fuel ss) sts) : ISs X (exSs fa fuel (.cons s ss)) (st :: sts) :=
  .mk <| (pss_cons h1.h h2.h).imp fun D σ H ⟨W, ρ, x, hR, hx, q⟩ => by
    simp only [exSs, Option.bind_eq_some_iff] at hx
    obtain ⟨⟨fl, ρ1⟩, e1, e2⟩ := hx
    refine ⟨W, ρ, (fl, ρ1), hR, e1, fun W1 σ1 H1 p1 => ?_⟩
    cases fl with
    | nx => exact ⟨W1, ρ1, x, p1.r, e2, fun W2 σ2 H2 p2 => FlOk.back p1 (q W2 σ2 H2 (p1.trans p2 hR))⟩
    | br => cases e2; exact q W1 σ1 H1 p1
    | ct => cases e2; exact q W1 σ1 H1 p1
    | rt r => cases e2; exact q W1 σ1 H1 p1
theorem s_expr (he : IE X (prj fa) e ce) (hs : swapsWith e Option.none pos.line X.env = pure false := by rfl) : IS X (exS fa fuel (.expr ce)) (.Expr e pos) :=
  .mk <| (ps_expr he.h hs).imp fun D σ H ⟨W, ρ, x, hR, hx, q⟩ => by
    simp only [exS, Option.map_eq_some_iff] at hx
    obtain ⟨r, e1, rfl⟩ := hx
    exact ⟨W, ρ, r, hR, e1, fun v H1 s1 _ => q W σ H1 (.same hR s1)⟩
theorem s_asg (i : Nat) {pos' : Pos} (hN : X.N.Nodup) (hi : X.N[i]? = some x) (hx : Loc X.env.scope x) (he : IE X (prj fa) e ce) (hs : swapsWith e (some (.Name x pos')) pos.line X.env = pure false := by rfl)
    (hf : X.fn x = true ∨ X.env.scope.names.lookup x = some .local := by first | exact .inl rfl | exact .inr rfl | assumption) : IS X (exS fa fuel (.asg i ce)) (.Assign [.Name x pos'] e pos) :=
  .mk <| (ps_set hN hi hx he.h hs hf).imp fun D σ H ⟨W, ρ, y, hR, hy, q⟩ => by
    simp only [exS, Option.bind_eq_some_iff] at hy
    obtain ⟨r, e1, e2⟩ := hy
    split at e2
    · cases e2
    · rename_i hl
      cases e2
      simp only [Bool.not_eq_true, Bool.or_eq_false_iff, Bool.not_eq_false'] at hl
      refine ⟨W, ρ, r, hR, e1, fun v H1 s1 h => ?_⟩
      cases h with
      | val h => exact q W _ H1 (post_set_val hR s1 h (free_io hl.2))
      | new h e r => exact q _ _ H1 (post_set_new hR s1 h e r (free_io hl.2))
      | see h e r => simp [SV.lent] at hl
theorem s_ret (he : IE X (prj fa) e ce) : IS X (exS fa fuel (.ret ce)) (.Return (some e) pos) :=
  .mk <| (ps_ret he.h).imp fun D σ H ⟨W, ρ, y, hR, hy, q⟩ => by
    simp only [exS, Option.bind_eq_some_iff] at hy
    obtain ⟨r, e1, e2⟩ := hy
    split at e2
    · cases e2
    · rename_i hl
      cases e2
      refine ⟨W, ρ, r, hR, e1, fun v H1 s1 h => ?_⟩
      cases h with
      | val h => exact q W σ H1 (.same hR s1) v (.val h)
      | new h e r =>
        refine q _ σ H1 ⟨hR.add s1 h e, fun b o q _ => s1 b o q, (add_ext (W := W) s1 h).win, fun b w n => ⟨.inl w, n⟩, fun _ => ⟨.rfl, fun _ => rfl⟩⟩ _ (.new (.inr rfl) (fun z => hR.wf _ z.1 h) (fun ⟨i, ⟨d, z1⟩, z2⟩ => hR.noOwn h ⟨i, _, d, z1, rfl, z2⟩) e r)
      | see h e r => simp [SV.lent] at hl
theorem s_retV (i : Nat) (hN : X.N[i]? = some x) (hv : Vis X.env.scope x) (hd : (x == ("__debug__" : Str)) = false := by decide) (hcd : (x == ("__classdict__" : Str)) = false := by decide) : IS X (exS fa fuel (.retV i)) (.Return (some (.Name x p)) pos) :=
  .mk <| (ps_ret (pe_var hN hv hd hcd)).imp fun D σ H ⟨W, ρ, y, hR, hy, q⟩ => by
    simp only [exS] at hy
    split at hy
    · rename_i d h
      cases hy
      obtain ⟨v, h1, h2⟩ := hR.val i d h
      exact ⟨v, h1, q W σ H (.same hR (.refl H)) v (.val h2)⟩
    · rename_i o ds h
      cases hy
      cases o with
      | false => exact absurd h (hR.nol i ds)
      | true =>
      obtain ⟨a, xs, h1, h2, h3, h4⟩ := hR.own i _ ds h rfl
      refine ⟨_, h1, q W σ H ?_ _ (.new h2 (fun z => z.2 ⟨i, _, ds, h, rfl, h1⟩) (fun ⟨j, ⟨d', z1⟩, z2⟩ => by
        have := hR.inj i j _ _ ds d' a h z1 rfl rfl h1 z2
        subst this
        rw [h] at z1; cases z1) h3 h4)⟩
      have old : ∀ {k : Nat} {z : SV}, (ρ.set i Option.none)[k]? = some (some z) → ρ[k]? = some (some z) := fun {k z} q => by
        rcases set_get q with ⟨_, w, _⟩ | ⟨_, w⟩
        · cases w
        · exact w
      exact ⟨⟨fun k d hk => hR.val k d (old hk), fun k d hk => hR.nol k d (old hk), fun k o es hk => hR.own k o es (old hk), fun k l x y e1 e2 b z1 z2 => hR.inj k l x y e1 e2 b (old z1) (old z2), hR.wf, by simpa using hR.len⟩, fun b o q _ => q, fun b w => .inl w, fun b w n => ⟨w, fun ⟨k, x, es, z1, c, z2⟩ => n ⟨k, x, es, old z1, c, z2⟩⟩,
        fun k => ⟨⟨fun ⟨d', z⟩ => ⟨d', old z⟩, fun ⟨d', z⟩ => ⟨d', by rw [get_set_ne (fun e => by subst e; rw [h] at z; cases z)]; exact z⟩⟩, fun _ => rfl⟩⟩
    · cases hy
theorem s_stop : IS X (exS fa fuel .stop) st := .mk <| ps_never.imp fun D σ H ⟨W, ρ, y, hR, hy, q⟩ => by
  simp only [exS] at hy; cases hy
theorem s_if (hc : IT X (prj fa) c cc) (h1 : ISs X (exSs fa fuel s1) sts) (h2 : ISs X (exSs fa fuel s2) sts') : IS X (exS fa fuel (.ifs cc s1 s2)) (.If c sts sts' pos) :=
  .mk <| (ps_if hc.h h1.h h2.h).imp fun D σ H ⟨W, ρ, y, hR, hy, q⟩ => by
    simp only [exS, Option.bind_eq_some_iff] at hy
    obtain ⟨k, e1, e2⟩ := hy
    refine ⟨W, ρ, k, hR, e1, fun H1 w1 => ?_⟩
    have p1 := SPost.same hR w1
    show if k = true then tSs X.K (exSs fa fuel s1) D σ H1 else tSs X.K (exSs fa fuel s2) D σ H1
    cases k with
    | true => rw [if_pos rfl] at e2 ⊢; exact ⟨W, ρ, y, p1.r, e2, fun W2 σ2 H2 p2 => FlOk.back p1 (q W2 σ2 H2 (p1.trans p2 hR))⟩
    | false => rw [if_neg Bool.false_ne_true] at e2 ⊢; exact ⟨W, ρ, y, p1.r, e2, fun W2 σ2 H2 p2 => FlOk.back p1 (q W2 σ2 H2 (p1.trans p2 hR))⟩
theorem s_app (i : Nat) {apos cpos : Pos} (hN : X.N[i]? = some x) (hv : Vis X.env.scope x) (he : IE X (prj fa) e ce) (hst : starEach [e] X.env = (false, eval e X.env) :: starEach [] X.env) (hd : (x == ("__debug__" : Str)) = false) (hcd : (x == ("__classdict__" : Str)) = false)
    (hs : swapsWith (.Call (.Attribute (.Name x p) "append" apos) [e] [] cpos) Option.none pos.line X.env = pure false := by rfl)
    (hbase : attributeBase (.Name x p) "append" X.env (eval (.Name x p) X.env) = eval (.Name x p) X.env := by rfl)
    (hline : (apos.endLine == cpos.line) = true := by rfl) :
    IS X (exS fa fuel (.app i ce)) (.Expr (.Call (.Attribute (.Name x p) "append" apos) [e] [] cpos) pos) :=
  .mk <| (ps_expr (pe_bm PySem.F.plainAttrs_list PySem.F.slot_list_append PySem.F.type_list_append mt_append (pe_var hN hv hd hcd) (pa_cons he.v pa_nil hst) hbase (by rw [hst]; rfl) hline hst sa_nil) hs).imp fun D σ H ⟨W, ρ, y, hR, hy, q⟩ => by
    simp only [exS] at hy
    split at hy
    · rename_i x h
      split at hy
      · rename_i ds hc
        simp only [Option.bind_eq_some_iff] at hy
        obtain ⟨r, e1, d, e2, e3⟩ := hy
        split at e3
        · rename_i hl
          cases e3
          obtain ⟨a, o, h1, h2, h3, h4⟩ := hR.own i _ _ h hc
          cases h4 with
          | lst h4 =>
          rename_i xs
          refine ⟨_, h1, .inl ⟨rfl, xs, .of h3⟩, ?_⟩
          refine ⟨W, ρ, r, hR, e1, fun v H1 w1 f => ?_⟩
          refine ⟨a, xs, v, rfl, rfl, w1 _ _ h3, ?_, ?_⟩
          · rw [← h4.length, ← line_eq]; exact hl
          · exact q W σ _ (post_put hR h hc h1 w1 (w1 _ _ h3) ⟨fun _ z => (nomatch z), fun _ _ z => (nomatch z)⟩ (.lst ((h4.ext (.same w1)).append (.cons (f.toD e2) .nil))))
        · cases e3
      · cases hy
    · cases hy
end
end L2.LW
set_option linter.all false
set_option maxHeartbeats 4000000
namespace L2.LW
open PySem PySem.Spec PyProof.Rows
noncomputable def Yl (K : PySem.W.Frag) (J : It) (W : Addr → Prop) (H : Hp) (ds : List D) : Prop :=
  ∀ W' H', Ext W H W' H' → ∀ k : Nat, (k = ds.length → J.stop k H') ∧ ∀ d, ds[k]? = some d → J.go k H' ∧ ∀ x H'', J.yld k H' x H'' → H'' = H' ∧ Rep K W' H' d x
noncomputable def Ys (K : PySem.W.Frag) (J : It) (W : Addr → Prop) (H : Hp) (ds : List D) : Prop :=
  ∀ W' H', Same H H' → (∀ a, W' a → W a ∨ H a = Option.none) → ∀ k : Nat, (k = ds.length → J.stop k H') ∧ ∀ d, ds[k]? = some d → J.go k H' ∧ ∀ x H'', J.yld k H' x H'' → H'' = H' ∧ Rep K W' H' d x
theorem Ext.sameW {W W' : Addr → Prop} {H H' : Hp} (s : Same H H') (w : ∀ a, W' a → W a ∨ H a = Option.none) : Ext W H W' H' := ⟨fun a o h _ => s a o h, fun a xs h => s a _ h, fun a o u h => s a _ h, w⟩
section
variable {K : PySem.W.Frag} {W : Addr → Prop} {H : Hp} {a : Addr} {xs : List V} {ds : List D}
theorem itl_at {H' : Hp} {W' : Addr → Prop} (hq : SqL K H' a xs) (rp : Reps K W' H' ds xs) (k : Nat) :
    (k = ds.length → (Itl K a).stop k H') ∧ ∀ d, ds[k]? = some d → (Itl K a).go k H' ∧ ∀ x H'', (Itl K a).yld k H' x H'' → H'' = H' ∧ Rep K W' H' d x := by
  refine ⟨fun e => ⟨xs, hq, by rw [← rp.length, e]; exact Nat.le_refl _⟩, fun d e => ?_⟩
  obtain ⟨v, e1, e2⟩ := rp.get e
  refine ⟨⟨xs, v, hq, e1⟩, fun x H'' ⟨z, y⟩ => ⟨z, ?_⟩⟩
  have := y xs hq
  rw [e1] at this
  cases this
  exact e2
theorem itt_at {H' : Hp} {W' : Addr → Prop} (hq : SqT K H' a xs) (rp : Reps K W' H' ds xs) (k : Nat) :
    (k = ds.length → (Itt K a).stop k H') ∧ ∀ d, ds[k]? = some d → (Itt K a).go k H' ∧ ∀ x H'', (Itt K a).yld k H' x H'' → H'' = H' ∧ Rep K W' H' d x := by
  refine ⟨fun e => ⟨xs, hq, by rw [← rp.length, e]; exact Nat.le_refl _⟩, fun d e => ?_⟩
  obtain ⟨v, e1, e2⟩ := rp.get e
  refine ⟨⟨xs, v, hq, e1⟩, fun x H'' ⟨z, y⟩ => ⟨z, ?_⟩⟩
  have := y xs hq
  rw [e1] at this
  cases this
  exact e2
theorem itr_at {H' : Hp} {W' : Addr → Prop} {lo : Int} {n : Nat} (k : Nat) :
    (k = ((List.range n).map fun (k : Nat) => D.int (lo + (k : Int))).length → (Itr lo n).stop k H') ∧
      ∀ d, ((List.range n).map fun (k : Nat) => D.int (lo + (k : Int)))[k]? = some d → (Itr lo n).go k H' ∧ ∀ x H'', (Itr lo n).yld k H' x H'' → H'' = H' ∧ Rep K W' H' d x := by
  refine ⟨fun e => ?_, fun d e => ?_⟩
  · rw [List.length_map, List.length_range] at e
    exact Nat.le_of_eq e.symm
  · rw [List.getElem?_map, Option.map_eq_some_iff] at e
    obtain ⟨j, e1, rfl⟩ := e
    obtain ⟨h1, h2⟩ := List.getElem?_eq_some_iff.mp e1
    rw [List.length_range] at h1
    rw [List.getElem_range] at h2
    subst h2
    exact ⟨h1, fun x H'' ⟨z, y⟩ => ⟨z, by rw [y]; exact .int _⟩⟩
theorem sqL_ext {W' : Addr → Prop} {H' : Hp} (h : (¬ W a ∧ Rd H a (.lst xs)) ∨ KLst K a xs) (x : Ext W H W' H') : SqL K H' a xs := by
  rcases h with ⟨n, h | ⟨o, h⟩⟩ | h
  · exact .inl (.inl (x.keep _ _ h n))
  · exact .inl (.inr ⟨o, x.keep _ _ h n⟩)
  · exact .inr h
end
noncomputable def iSeq (K : PySem.W.Frag) (tl : TE) : TI := fun σ H R => tl σ H fun x H1 => ∃ a, x = .ref a ∧ (((∃ xs, SqL K H1 a xs) ∧ R (Itl K a) H1) ∨ ((∃ xs, SqT K H1 a xs) ∧ R (Itt K a) H1))
section
variable {X : Cx} {tg l : Expr}
theorem pi_seq {tl : TE} (hl : PE X l tl) : PI X tg l (iSeq X.K tl) := by
  intro pins s σ H R I h
  refine thn (hl pins s σ H _ I h) fun v s1 ⟨x, H1, I1, r1, q1⟩ => ?_
  obtain ⟨a, e, q⟩ := q1
  subst e
  cases r1
  rcases q with ⟨⟨xs, hq⟩, q⟩ | ⟨⟨xs, hq⟩, q⟩
  · obtain ⟨its, rv, p, hz⟩ := I1.list hq
    refine wpAny_pyIter_list p.isList ?_
    refine ⟨s1.heap.objs.size, [s1.heap.objs.size], _, _, H1, rfl, I1.kept (t' := s1.toks) fun b o e => Heap.get?_push_of_some _ e, turn_list a _, ⟨_, Heap.get?_push_size _ rfl, rfl, rfl⟩, fun b hb => ?_, q⟩
    have e : b = s1.heap.objs.size := by simpa using hb
    subst e
    exact I1.fpOk (Nat.le_refl _) (I1.hok.fresh (Nat.le_refl _))
  · obtain ⟨its, rv, p, hz⟩ := I1.tuple hq
    refine wpAny_pyIter_tuple (show s1.heap.IsTuple a its.toArray from p) ?_
    refine ⟨s1.heap.objs.size, [s1.heap.objs.size], _, _, H1, rfl, I1.kept (t' := s1.toks) fun b o e => Heap.get?_push_of_some _ e, turn_tuple a _, ⟨_, Heap.get?_push_size _ rfl, rfl, rfl⟩, fun b hb => ?_, q⟩
    have e : b = s1.heap.objs.size := by simpa using hb
    subst e
    exact I1.fpOk (Nat.le_refl _) (I1.hok.fresh (Nat.le_refl _))
end
noncomputable def tI (K : PySem.W.Frag) (fn : Nat → List D → Option SV) (rng : Bool) (src : Es) : TI := fun σ H R0 => ∃ W ρ rs ds, R K W ρ σ H ∧ evEs fn src ρ = some rs ∧ itemsOf rng rs = some ds ∧
  ∀ J H', Same H H' → Ys K J W H' ds → (rs.any SV.lent = false → Yl K J W H' ds) → R0 J H'
structure Src (X : Cx) (fn : Nat → List D → Option SV) (tg e : Expr) (rng : Bool) (src : Es) : Prop where
  h : PI X tg e (tI X.K fn rng src)
theorem _root_.L2.PI.imp {X : Cx} {tg l : Expr} {t t' : TI} (h : PI X tg l t) (i : ∀ σ H Q, t' σ H Q → t σ H Q) : PI X tg l t' := fun pins s σ H Q I q => h pins s σ H Q I (i σ H Q q)
section
variable {X : Cx} {fn : Nat → List D → Option SV} {fuel : Nat} {a b c e tg : Expr} {ca cb cc ce : E} {es : List Expr} {cs : Es} {pos p : Pos} {x : Str}
theorem src_seq (he : IE X fn e ce) : Src X fn tg e false (.cons ce .nil) :=
  .mk <| (pi_seq he.v).imp fun σ H R0 ⟨W, ρ, rs, ds, hR, h1, h2, q⟩ => by
    simp only [evEs, Option.bind_eq_some_iff, Option.map_eq_some_iff] at h1
    obtain ⟨r, e1, rs', e3, rfl⟩ := h1
    cases e3
    simp only [itemsOf] at h2
    refine ⟨W, ρ, r, hR, e1, fun v H1 s1 f => ?_⟩
    unfold seqOf at h2
    split at h2
    · rename_i l hd
      cases h2
      have hs := f.sees
      rw [hd] at hs
      obtain ⟨a, xs, rfl, hq, rp⟩ := hs.tupH
      refine ⟨a, rfl, .inr ⟨⟨xs, .of hq⟩, q _ H1 s1 (fun W' H' s w k => itt_at (.of (s _ _ hq)) (rp.ext (.sameW s w)) k) fun _ W' H' x k => itt_at (.of (x.tup _ _ hq)) (rp.ext x) k⟩⟩
    · rename_i l hd
      cases h2
      have hs := f.sees
      rw [hd] at hs
      obtain ⟨a, xs, rfl, hq, rp⟩ := hs.lst
      refine ⟨a, rfl, .inl ⟨⟨xs, hq⟩, q _ H1 s1 (fun W' H' s w k => itl_at (s.seq hq) (rp.ext (.sameW s w)) k) fun hl W' H' x k => ?_⟩⟩
      have hl' : r.lent = false := by simpa using hl
      cases f with
      | val h =>
        change _ = D.lst _ at hd
        subst hd
        cases h with
        | lst h r' => exact itl_at (sqL_ext h x) (r'.ext x) k
      | lis h e r' =>
        change _ = D.lst _ at hd
        subst hd
        cases r' with
        | lst r' => exact itl_at (.of (x.keep _ _ e h)) (r'.ext x) k
      | see h e r' => simp [SV.lent] at hl'
    · cases h2
theorem src_rng1 (hg : Gl X "range") (hm : X.mg "range" = Option.none) (ha : IA X fn [a] (.cons ca .nil)) (hs : starEach [a] X.env = (false, eval a X.env) :: starEach [] X.env) : Src X fn tg (.Call (.Name "range" p) [a] [] pos) true (.cons ca .nil) :=
  .mk <| (pi_range1 hg hm ha.h hs).imp fun σ H R0 ⟨W, ρ, rs, ds, hR, h1, h2, q⟩ => by
    refine ⟨W, ρ, rs, hR, h1, fun vs H1 s1 f => ?_⟩
    simp only [evEs, Option.bind_eq_some_iff, Option.map_eq_some_iff] at h1
    obtain ⟨r, e1, rs', e3, rfl⟩ := h1
    cases e3
    obtain ⟨v, rfl, g⟩ : ∃ v, vs = [v] ∧ Frz X.K W H1 r v := by
      cases f with
      | cons f t => cases t; exact ⟨_, rfl, f⟩
    clear f
    cases g with
    | val g =>
      cases g with
      | int n =>
        simp only [itemsOf] at h2
        split at h2
        · rename_i hn
          cases h2
          exact ⟨n, rfl, hn.1, hn.2, q _ H1 s1 (fun W' H' s w k => itr_at k) fun _ W' H' x k => itr_at k⟩
        · cases h2
      | _ => simp [itemsOf] at h2
    | _ => simp [itemsOf] at h2
theorem src_rng2 (hg : Gl X "range") (hm : X.mg "range" = Option.none) (ha : IA X fn [a, b] (.cons ca (.cons cb .nil))) (hs : starEach [a, b] X.env = (false, eval a X.env) :: starEach [b] X.env) (hs2 : starEach [b] X.env = (false, eval b X.env) :: starEach [] X.env) :
    Src X fn tg (.Call (.Name "range" p) [a, b] [] pos) true (.cons ca (.cons cb .nil)) :=
  .mk <| (pi_range2 hg hm ha.h (by rw [hs, hs2]; rfl) hs2).imp fun σ H R0 ⟨W, ρ, rs, ds, hR, h1, h2, q⟩ => by
    refine ⟨W, ρ, rs, hR, h1, fun vs H1 s1 f => ?_⟩
    simp only [evEs, Option.bind_eq_some_iff, Option.map_eq_some_iff] at h1
    obtain ⟨r, e1, rs', ⟨r2, e2, rs'', e3, rfl⟩, rfl⟩ := h1
    cases e3
    obtain ⟨v, v2, rfl, g, f2⟩ : ∃ v v2, vs = [v, v2] ∧ Frz X.K W H1 r v ∧ Frz X.K W H1 r2 v2 := by
      cases f with
      | cons f t => cases t with
        | cons f' t => cases t; exact ⟨_, _, rfl, f, f'⟩
    clear f
    cases g with
    | val g =>
      cases f2 with
      | val f2 =>
        cases g with
        | int n =>
          cases f2 with
          | int m =>
            simp only [itemsOf] at h2
            split at h2
            · rename_i hn
              cases h2
              exact ⟨n, m, rfl, ⟨hn.1.1, hn.1.2, hn.2.1, hn.2.2⟩, q _ H1 s1 (fun W' H' s w k => itr_at k) fun _ W' H' x k => itr_at k⟩
            · cases h2
          | _ => simp [itemsOf] at h2
        | _ => simp [itemsOf] at h2
      | _ => simp [itemsOf] at h2
    | _ => simp [itemsOf] at h2
theorem drop_cons {α : Type} {l : List α} {k : Nat} {d : α} (h : l[k]? = some d) : l.drop k = d :: l.drop (k + 1) := by
  obtain ⟨h1, h2⟩ := List.getElem?_eq_some_iff.mp h
  rw [List.drop_eq_getElem_cons h1, h2]
theorem for_core {K : PySem.W.Frag} {J : It} {ds : List D} {i : Nat} {ex : LW.Env → Option (Fl × LW.Env)} {W : Addr → Prop} {ρ : LW.Env} {σ : St} {H : Hp} {x : Fl × LW.Env} {D0 : Ends} (hR : R K W ρ σ H) (hfr : ¬ isIo ρ i) (hy : Yl K J W H ds)
    (hx : forL i ex ds ρ = some x) (q : ∀ W' σ' H', SPost K W ρ σ H W' x.2 σ' H' → FlOk K W ρ σ W' x.2 σ' H' D0 x.1) :
    ∃ Wv : Nat → Nat → St → Hp → Prop, (∃ m, Wv 0 m σ H) ∧ ∀ k m σ' H', Wv k m σ' H' →
      (J.stop k H' ∧ D0.nx σ' H') ∨ (J.go k H' ∧ ∃ N : St → Hp → Prop, (∀ σ2 H2, N σ2 H2 → ∃ m', m' < m ∧ Wv (k + 1) m' σ2 H2) ∧ ∀ v H2, J.yld k H' v H2 → gName i v σ' H2 fun σ2 H2 => tSs K ex { D0 with nx := N, ct := N, bk := D0.nx } σ2 H2) := by
  refine ⟨fun k m σ' H' => m = ds.length - k ∧ k ≤ ds.length ∧ ∃ W' ρ', SPost K W ρ σ H W' ρ' σ' H' ∧ forL i ex (ds.drop k) ρ' = some x, ⟨_, rfl, Nat.zero_le _, W, ρ, .same hR (.refl H), hx⟩, ?_⟩
  rintro k m σ' H' ⟨rfl, hk, W', ρ', p, hf⟩
  obtain ⟨hstop, hgo⟩ := hy W' H' (p.ext hR) k
  by_cases hlt : k < ds.length
  · have hd : ds[k]? = some ds[k] := by simp [hlt]
    obtain ⟨g1, g2⟩ := hgo _ hd
    rw [drop_cons hd, forL, Option.bind_eq_some_iff] at hf
    obtain ⟨⟨fl, ρ2⟩, e1, e2⟩ := hf
    refine .inr ⟨g1, fun σ2 H2 => (ds.length - (k + 1)) = ds.length - (k + 1) ∧ k + 1 ≤ ds.length ∧ ∃ W' ρ', SPost K W ρ σ H W' ρ' σ2 H2 ∧ forL i ex (ds.drop (k + 1)) ρ' = some x, fun σ2 H2 h => ⟨_, by omega, h⟩, fun v H2 y => ?_⟩
    obtain ⟨rfl, rv⟩ := g2 v H2 y
    have p1 := post_set_val (i := i) p.r (.refl H2) rv fun z => hfr ((p.io i).1.mp z)
    have p01 := p.trans p1 hR
    refine ⟨W', _, (fl, ρ2), p1.r, e1, fun W3 σ3 H3 p3 => ?_⟩
    have p03 := p01.trans p3 hR
    cases fl with
    | nx => exact ⟨rfl, hlt, W3, ρ2, p03, e2⟩
    | ct => exact ⟨rfl, hlt, W3, ρ2, p03, e2⟩
    | br => cases e2; exact q W3 σ3 H3 p03
    | rt r => cases e2; exact fun v hv => q W3 σ3 H3 p03 v (hv.back p01)
  · have e : k = ds.length := by omega
    rw [List.drop_of_length_le (by omega), forL] at hf
    cases hf
    exact .inl ⟨hstop e, q W' σ' H' p⟩
variable {fa : Nat → List D → Option Ans} {sts : List Stmt} {ss : Ss}
theorem s_for (i : Nat) {rng : Bool} {src : Es} {px : Pos} (hp : PassesOwn (model X.prog X.w) X.A X.env X.xe) (hc : X.calm = true) (hN : X.N.Nodup) (hi : X.N[i]? = some x) (hx : Loc X.env.scope x) (hs : Src X (prj fa) (.Name x px) e rng src) (hb : ISs X (exSs fa fuel ss) sts)
    (hf : X.fn x = true ∨ X.env.scope.names.lookup x = some .local := by first | exact .inl rfl | exact .inr rfl | assumption) (hfo : ∀ x, foldedSetIterable e X.env x = pure x := by intro _; rfl) : IS X (exS fa fuel (.for_ i rng src ss)) (.For (.Name x px) e sts [] pos) :=
  .mk <| (ps_for hp hc hs.h (pg_name hN hi hx hf) hb.h hfo).imp fun D0 σ H ⟨W, ρ, y, hR, hy, q⟩ => by
    simp only [exS, Option.bind_eq_some_iff] at hy
    obtain ⟨rs, e1, e2⟩ := hy
    split at e2
    · cases e2
    · rename_i hl
      simp only [Bool.not_eq_true, Bool.or_eq_false_iff, Bool.not_eq_false'] at hl
      rw [Option.bind_eq_some_iff] at e2
      obtain ⟨ds, e3, e4⟩ := e2
      refine ⟨W, ρ, rs, ds, hR, e1, e3, fun J H1 s1 _ hyl => ?_⟩
      have p1 := SPost.same hR s1
      exact for_core p1.r (free_io hl.2) (hyl hl.1) e4 fun W' σ' H' p => FlOk.back p1 (q W' σ' H' (p1.trans p hR))
end
theorem args0_get (io : List Nat) : ∀ (ds : List D) (k i : Nat), (args0 io k ds)[i]? = (ds[i]?).map fun d => some (if io.contains (k + i) then SV.io d else .val d)
  | [], k, i => by simp [args0]
  | d :: r, k, 0 => by simp [args0]
  | d :: r, k, i + 1 => by
    rw [args0, List.getElem?_cons_succ, args0_get io r (k + 1) i, List.getElem?_cons_succ]
    have : k + 1 + i = k + (i + 1) := by omega
    rw [this]
theorem args0_len (io : List Nat) : ∀ (ds : List D) (k : Nat), (args0 io k ds).length = ds.length
  | [], k => rfl
  | d :: r, k => by simp [args0, args0_len io r (k + 1)]
theorem vals_at {io : List Nat} {ds : List D} {n : Nat} {i : Nat} {x : SV} (h : (args0 io 0 ds ++ List.replicate n Option.none)[i]? = some (some x)) :
    ∃ d, ds[i]? = some d ∧ x = if io.contains i then SV.io d else .val d := by
  by_cases hi : i < ds.length
  · rw [List.getElem?_append_left (by rw [args0_len]; exact hi), args0_get, Option.map_eq_some_iff] at h
    obtain ⟨d, e1, e2⟩ := h
    rw [Nat.zero_add] at e2
    exact ⟨d, e1, (Option.some.inj e2).symm⟩
  · rw [List.getElem?_append_right (by rw [args0_len]; omega)] at h
    rw [List.getElem?_replicate] at h
    split at h <;> cases h
theorem start_at {N : List Str} {vs : List V} {i : Nat} {v : V} (h : vs[i]? = some v) : (start N vs)[i]? = some (some v) := by
  have hi : i < vs.length := (List.getElem?_eq_some_iff.mp h).1
  unfold start
  rw [List.getElem?_append_left (by simpa using hi), List.getElem?_map, h]
  rfl
theorem outs_ok {K : PySem.W.Frag} {W W' : Addr → Prop} {H' : Hp} {ρ' : LW.Env} {σ' : St} {vs : List V} (hR : R K W' ρ' σ' H') (sub : ∀ b, W b → W' b) : ∀ {io : List Nat} {outs : List D}, outsOf ρ' io = some outs → (∀ k ∈ io, isIo ρ' k → ∃ a, σ'[k]? = some (some (.ref a)) ∧ vs[k]? = some (.ref a)) → Outs K W H' io vs outs
  | [], outs, e, _ => by simp only [outsOf] at e; cases e; exact .nil
  | k :: r, outs, e, hs => by
    simp only [outsOf] at e
    split at e
    · rename_i d h
      rw [Option.map_eq_some_iff] at e
      obtain ⟨l, e1, rfl⟩ := e
      obtain ⟨a, h1, h2⟩ := hs k List.mem_cons_self ⟨d, h⟩
      obtain ⟨a', o, h3, _, h5, h6⟩ := hR.own k _ d h rfl
      rw [h1] at h3; cases h3
      exact .cons ⟨a, o, h2, h5, h6.less sub⟩ (outs_ok hR sub e1 fun j hj => hs j (List.mem_cons_of_mem _ hj))
    · cases e
theorem fn_ok {Pg : Program} {w : World} {K : PySem.W.Frag} {mg : Str → Option Value} {base : Heap} {x qual : Str} {st : Stmt} {f : Addr} {fd : FuncData} {N ps : List Str} {k n i : Nat} {P : Nat → Option Fn} {fuel : Nat} {F0 : Fn} {io : List Nat}
    (F : Fun K x qual st f fd) (S : FnScope N ps (defScope st)) (hP : P i = some F0) (hnp : F0.np = ps.length) (hnl : F0.nl = N.length) (hio : F0.io = io) (hiop : io.all (fun k => decide (k < F0.np)) = true) (hxb : F0.xb = Option.none)
    (hbody : ∀ (cdv : Value) (A : Around) (outer : List PySem.Env) (s : Shared) (H : Hp) (E : XK), Room k (A.deeper (envOfC qual (defScope st) s.heap.objs.size f cdv)) →
      ISs (cxOf CX0 Pg w K mg base N qual (defScope st) f cdv A outer s H E).nox (exSs (callA P fuel n) fuel F0.body) (defBody st)) :
    FnOk Pg w K mg base CX0 (k + 1) f fd ps (spA K (callA P fuel (n + 1)) i io) := by
  subst hio
  have dec : ∀ {ds : List D} {r : Ans}, callA P fuel (n + 1) i ds = some r → ds.length = F0.np ∧ endA F0.io (exSs (callA P fuel n) fuel F0.body (args0 F0.io 0 ds ++ List.replicate (F0.nl - F0.np) Option.none)) = some r := fun {ds r} h => by
    rw [callA, hP] at h
    simp only [Option.bind_some, hxb] at h
    split at h
    · exact ⟨by assumption, h⟩
    · cases h
  refine F.ok S (fun vs H Q E h => ?_) (fun cdv A outer s H vs Q E hr h => ⟨_, (hbody cdv A outer s H E hr).h, ?_⟩)
  · obtain ⟨W, ds, r, outs, wf, rp, e, _⟩ := h
    rw [← rp.len, (dec e).1, hnp]
  · obtain ⟨W, ds, r, outs, wf, rp, e, q⟩ := h
    obtain ⟨hl, he⟩ := dec e
    have hlv := rp.len
    have hplN : ps.length ≤ N.length := by have := congrArg List.length S.pre; rw [List.length_take] at this; omega
    generalize hρ : args0 F0.io 0 ds ++ List.replicate (F0.nl - F0.np) Option.none = ρ at he
    have at_ : ∀ {j : Nat} {x : SV}, ρ[j]? = some (some x) → ∃ d, ds[j]? = some d ∧ x = if F0.io.contains j then SV.io d else .val d := fun {j x} h => by rw [← hρ] at h; exact vals_at h
    have own_io : ∀ a, Own ρ (start N vs) a → ioV F0.io vs a := fun a ⟨j, x, d, h1, hc, h2⟩ => by
      obtain ⟨d', e1, e2⟩ := at_ h1
      split at e2
      · rename_i hj
        have hj : j ∈ F0.io := by simpa using hj
        obtain ⟨b, o, h3, _⟩ := rp.obj j d' e1 hj
        rw [start_at h3] at h2
        cases h2
        exact ⟨j, hj, h3⟩
      · subst e2; cases hc
    have hR : R K W ρ (start N vs) H := by
      refine ⟨fun j d h => ?_, fun j d h => ?_, fun j x d h hc => ?_, fun j k x y d e a h1 h2 c1 c2 h3 h4 => ?_, wf, ?_⟩
      · obtain ⟨d', e1, e2⟩ := at_ h
        split at e2
        · cases e2
        · rename_i hj
          cases e2
          obtain ⟨v, h1, h2⟩ := rp.val j d e1 (by simpa using hj)
          exact ⟨v, start_at h1, h2⟩
      · obtain ⟨d', e1, e2⟩ := at_ h
        split at e2 <;> cases e2
      · obtain ⟨d', e1, e2⟩ := at_ h
        split at e2
        · rename_i hj
          subst e2; cases hc
          obtain ⟨b, o, h3, h4, h5, h6⟩ := rp.obj j d e1 (by simpa using hj)
          exact ⟨b, o, start_at h3, h4, h5, h6⟩
        · subst e2; cases hc
      · obtain ⟨d1, e1, e2⟩ := at_ h1
        obtain ⟨d2, e3, e4⟩ := at_ h2
        split at e2
        · rename_i hj
          split at e4
          · rename_i hk
            have hj : j ∈ F0.io := by simpa using hj
            have hk : k ∈ F0.io := by simpa using hk
            obtain ⟨b, o, z1, _⟩ := rp.obj j d1 e1 hj
            obtain ⟨b', o', z2, _⟩ := rp.obj k d2 e3 hk
            rw [start_at z1] at h3; cases h3
            rw [start_at z2] at h4; cases h4
            exact rp.inj j k _ hj hk z1 z2
          · subst e4; cases c2
        · subst e2; cases c1
      · rw [← hρ]
        unfold start
        rw [List.length_append, List.length_append, args0_len, List.length_map, List.length_replicate, List.length_replicate]
        omega
    cases hx : exSs (callA P fuel n) fuel F0.body ρ with
    | none => rw [hx] at he; cases he
    | some y =>
      rw [hx] at he
      obtain ⟨fl, ρ'⟩ := y
      refine ⟨W, ρ, (fl, ρ'), hR, hx, fun W' σ' H' p => ?_⟩
      have kp : ∀ a o, H a = some o → ¬ ioV F0.io vs a → H' a = some o := fun b o h n => p.keep b o h fun z => n (own_io b z)
      have io_at : ∀ k ∈ F0.io, isIo ρ' k → ∃ a, σ'[k]? = some (some (.ref a)) ∧ vs[k]? = some (.ref a) := fun j hj z => by
        have z0 := (p.io j).1.mp z
        obtain ⟨d0, z1⟩ := z0
        obtain ⟨d', e1, e2⟩ := at_ z1
        obtain ⟨b, o, h3, _⟩ := rp.obj j d' e1 hj
        exact ⟨b, by rw [(p.io j).2 ⟨d0, z1⟩, start_at h3], h3⟩
      have sub : ∀ b, W b → W' b := fun b w => by
        by_cases hb : Own ρ (start N vs) b
        · obtain ⟨j, x, d, h1, hc, h2⟩ := hb
          obtain ⟨d', e1, e2⟩ := at_ h1
          split at e2
          · subst e2
            obtain ⟨d2, z⟩ := (p.io j).1.mpr ⟨d', h1⟩
            obtain ⟨a', o, h3, h4, _⟩ := p.r.own j _ d2 z rfl
            rw [(p.io j).2 ⟨d', h1⟩, h2] at h3
            cases h3
            exact h4
          · subst e2; cases hc
        · exact (p.wout b w hb).1
      cases fl with
      | br => cases he
      | ct => cases he
      | nx =>
        simp only [endA, Option.map_eq_some_iff] at he
        obtain ⟨l, e1, e2⟩ := he
        cases e2
        exact q _ H' kp (outs_ok p.r sub e1 io_at) (.val .non)
      | rt r' =>
        simp only [endA, Option.map_eq_some_iff] at he
        obtain ⟨l, e1, e2⟩ := he
        cases e2
        intro v hv
        have ho := outs_ok p.r sub e1 io_at
        cases hv with
        | val h => exact q v H' kp ho (.val (h.less sub))
        | new h nn n' eL rr =>
          have ha := (p.win _ h).resolve_left fun w => nn ⟨w, fun ⟨j, x, d, h1, hc, h2⟩ => by
            obtain ⟨d', e1, e2⟩ := at_ h1
            split at e2
            · subst e2; exact n' ⟨j, ⟨d', h1⟩, h2⟩
            · subst e2; cases hc⟩
          refine q _ H' kp ho (.new ha eL (rr.less fun b w => ?_))
          rcases w with w | rfl
          · exact sub b w
          · exact h
end L2.LW
set_option linter.all false
set_option maxHeartbeats 4000000
namespace L2.LW
open PySem PySem.Spec PyProof.Rows
noncomputable def clos (env : PySem.Env) : List (Str × NameKind) → List (Str × Addr) → List (Str × Addr)
  | [], acc => acc
  | (n, k) :: r, acc => if k == .free then clos env r ((n, (env.cells.lookup n).getD 0) :: acc) else clos env r acc
theorem forIn_clos (env : PySem.Env) : ∀ (names : List (Str × NameKind)) (acc : List (Str × Addr)), (∀ y ∈ names, y.2 = .free → (env.cells.lookup y.1).isSome = true) →
    (forIn names acc fun (x : Str × NameKind) (cs : List (Str × Addr)) => (if (x.2 == NameKind.free) = true then (do let c ← cellOf env x.1; pure (ForInStep.yield ((x.1, c) :: cs)) : Sem (ForInStep (List (Str × Addr)))) else pure (ForInStep.yield cs))) = (pure (clos env names acc) : Sem (List (Str × Addr)))
  | [], acc, _ => rfl
  | (n, k) :: r, acc, h => by
    have ih := fun acc => forIn_clos env r acc fun y hy => h y (List.mem_cons_of_mem _ hy)
    rw [List.forIn_cons]
    by_cases hk : (k == NameKind.free) = true
    · have hs := h (n, k) List.mem_cons_self (by simpa using hk)
      obtain ⟨c, hc⟩ := Option.isSome_iff_exists.mp hs
      have hc : env.cells.lookup n = some c := hc
      simp only [hk, if_true, cellOf, hc, clos, Option.getD_some]
      show (forIn r ((n, c) :: acc) _ : Sem _) = _
      exact ih _
    · simp only [hk, if_false, clos]
      show (forIn r acc _ : Sem _) = _
      exact ih _
theorem closureFor_clos {scope : Scope} {env : PySem.Env} (h : ∀ y ∈ scope.names, y.2 = .free → (env.cells.lookup y.1).isSome = true) : closureFor scope env = pure (clos env scope.names []) := by
  have key : closureFor scope env = ((forIn scope.names ([] : List (Str × Addr)) fun (x : Str × NameKind) (cs : List (Str × Addr)) =>
    (if (x.2 == NameKind.free) = true then (do let c ← cellOf env x.1; pure (ForInStep.yield ((x.1, c) :: cs)) : Sem (ForInStep (List (Str × Addr)))) else pure (ForInStep.yield cs))) >>= fun cs => pure cs) := rfl
  rw [key, forIn_clos env scope.names [] h]
  rfl
theorem clos_lookup {env : PySem.Env} {y : Str} {c : Addr} : ∀ {names : List (Str × NameKind)} {acc : List (Str × Addr)}, (∀ z ∈ names, z.2 = .free → (env.cells.lookup z.1).isSome = true) → (clos env names acc).lookup y = some c →
    acc.lookup y = some c ∨ env.cells.lookup y = some c
  | [], _, _, e => .inl e
  | (n, k) :: r, acc, h, e => by
    unfold clos at e
    split at e
    · rename_i hk
      rcases clos_lookup (fun z hz => h z (List.mem_cons_of_mem _ hz)) e with q | q
      · rw [List.lookup_cons] at q
        split at q
        · rename_i hy
          have hy : y = n := by simpa using hy
          subst hy
          obtain ⟨c', hc⟩ := Option.isSome_iff_exists.mp (h (y, k) List.mem_cons_self (by simpa using hk))
          have hc : env.cells.lookup y = some c' := hc
          rw [hc] at q
          cases q
          exact .inr hc
        · exact .inl q
      · exact .inr q
    · exact clos_lookup (fun z hz => h z (List.mem_cons_of_mem _ hz)) e
theorem clos_has {env : PySem.Env} {y : Str} : ∀ {names : List (Str × NameKind)} {acc : List (Str × Addr)}, ((acc.lookup y).isSome = true ∨ (y, NameKind.free) ∈ names) → ((clos env names acc).lookup y).isSome = true
  | [], acc, h => by
    rcases h with h | h
    · exact h
    · cases h
  | (n, k) :: r, acc, h => by
    unfold clos
    split
    · rename_i hk
      refine clos_has ?_
      by_cases e : y = n
      · subst e; exact .inl (by simp)
      · have hb : (y == n) = false := by simpa using e
        rcases h with h | h
        · exact .inl (by rw [List.lookup_cons, hb]; exact h)
        · rcases List.mem_cons.mp h with z | z
          · cases z; exact absurd rfl e
          · exact .inr z
    · rename_i hk
      refine clos_has ?_
      rcases h with h | h
      · exact .inl h
      · rcases List.mem_cons.mp h with z | z
        · cases z; exact absurd rfl hk
        · exact .inr z
noncomputable def hide (x : Str) (N : List Str) : List Str := N.map fun y => if y = x then ("" : Str) else y
noncomputable def cellsX (scope : Scope) (x : Str) (c : Addr) (cl : List (Str × Addr)) : List (Str × Addr) := if scope.names.lookup x = some .cell then (x, c) :: cl else cl
noncomputable def compX (X : Cx) (scope : Scope) (x : Str) (s₃ : Shared) (H₃ : Hp) (fp : List Addr) (pins : List (Addr × Obj)) : Cx :=
  { X with N := x :: hide x X.N, s₀ := s₃, H₀ := H₃, env := compEnvC scope (cellsX scope x (s₃.heap.objs.size + 1) (clos X.env scope.names [])) s₃.heap.objs.size X.env, outer := X.stack, stack := X.stack, ex := fp, fn := fun y => decide (y = x) && decide (scope.names.lookup x = some .cell), pn := X.pn ++ pins, xe := fun _ _ => False }
structure CompSc (X : Cx) (scope : Scope) (x : Str) : Prop where
  kind : scope.kind = .function
  loc : scope.names.lookup x = some .local ∨ scope.names.lookup x = some .cell
  names : ∀ y ∈ scope.names, y.2 = .local → scope.names.lookup y.1 = some .local
  cell1 : scope.names.filter (fun y => y.2 == .cell) = if scope.names.lookup x = some .cell then [(x, .cell)] else []
  free : ∀ y ∈ scope.names, y.2 = .free → X.env.scope.names.lookup y.1 = some .cell ∨ X.env.scope.names.lookup y.1 = some .free
  own : ∀ y ∈ X.N, scope.names.lookup y = some .local → y = x
  none : scope.names.lookup ("" : Str) = Option.none
  nd : (x :: hide x X.N).Nodup
theorem lookup_mem {y : Str} {k : NameKind} : ∀ {l : List (Str × NameKind)}, l.lookup y = some k → (y, k) ∈ l
  | [], h => by cases h
  | (n, j) :: r, h => by
    rw [List.lookup_cons] at h
    split at h
    · rename_i e
      have e : y = n := by simpa using e
      cases h; subst e
      exact List.mem_cons_self
    · exact List.mem_cons_of_mem _ (lookup_mem h)
theorem relabel_lookup {env : PySem.Env} {y : Str} {k : NameKind} : ∀ {names : List (Str × NameKind)},
    (names.map fun (z : Str × NameKind) => match z with | (n, k) => if (k == NameKind.free && env.scope.kind == .function && env.kindOf n == some .cell) = true then (n, NameKind.cell) else (n, k)).lookup y = some k →
    names.lookup y = some k ∨ (k = .cell ∧ names.lookup y = some .free)
  | [], h => by cases h
  | (n, j) :: r, h => by
    rw [List.map_cons, List.lookup_cons] at h
    rw [List.lookup_cons]
    by_cases hc : (j == NameKind.free && env.scope.kind == .function && env.kindOf n == some .cell) = true
    · simp only [hc, if_true] at h
      cases e : y == n with
      | true =>
        rw [e] at h
        cases h
        have hj : j = .free := by
          simp only [Bool.and_eq_true] at hc
          simpa using hc.1.1
        exact .inr ⟨rfl, by rw [hj]⟩
      | false => rw [e] at h; exact relabel_lookup h
    · simp only [hc, Bool.false_eq_true, if_false] at h
      cases e : y == n with
      | true => rw [e] at h; exact .inl h
      | false => rw [e] at h; exact relabel_lookup h
section
variable {X : Cx} {scope : Scope} {x : Str} {s₃ : Shared} {H₃ : Hp} {fp : List Addr} {pins : List (Addr × Obj)} {σ : St}
theorem CompSc.onlyC (S : CompSc X scope x) {y : Str} (h : scope.names.lookup y = some .cell) : y = x ∧ scope.names.lookup x = some .cell := by
  have hm : (y, NameKind.cell) ∈ scope.names.filter (fun y => y.2 == .cell) := List.mem_filter.mpr ⟨lookup_mem h, rfl⟩
  rw [S.cell1] at hm
  split at hm
  · simp at hm; subst hm; exact ⟨rfl, h⟩
  · cases hm
theorem cellsFrom_one {x : Str} : ∀ (names : List (Str × NameKind)) (a : Nat) (acc : List (Str × Addr)) (h : Heap), names.filter (fun y => y.2 == .cell) = [(x, .cell)] → cellsFrom a names acc = (x, a) :: acc ∧ pushCells h names = h.push { cls := .type "cell", data := .cell Option.none }
  | [], _, _, _, e => by cases e
  | (n, k) :: r, a, acc, h, e => by
    have none_ : ∀ (names : List (Str × NameKind)) (a : Nat) (acc : List (Str × Addr)) (h : Heap), names.filter (fun y => y.2 == .cell) = [] → cellsFrom a names acc = acc ∧ pushCells h names = h := by
      intro names
      induction names with
      | nil => intro a acc h _; exact ⟨rfl, rfl⟩
      | cons y r ih =>
        intro a acc h e
        obtain ⟨n, k⟩ := y
        rw [List.filter_cons] at e
        split at e
        · cases e
        · rename_i hk
          have hk : (k == NameKind.cell) = false := by simpa using hk
          unfold cellsFrom pushCells
          rw [hk]
          exact ih a acc h e
    rw [List.filter_cons] at e
    split at e
    · rename_i hk
      injection e with e1 e2
      cases e1
      unfold cellsFrom pushCells
      simp only [beq_self_eq_true, if_true]
      exact none_ r _ _ _ e2
    · rename_i hk
      have hk : (k == NameKind.cell) = false := by simpa using hk
      unfold cellsFrom pushCells
      rw [hk]
      exact cellsFrom_one r a acc h e
theorem cellsFrom_none : ∀ (names : List (Str × NameKind)) (a : Nat) (acc : List (Str × Addr)) (h : Heap), names.filter (fun y => y.2 == .cell) = [] → cellsFrom a names acc = acc ∧ pushCells h names = h
  | [], _, _, _, _ => ⟨rfl, rfl⟩
  | (n, k) :: r, a, acc, h, e => by
    rw [List.filter_cons] at e
    split at e
    · cases e
    · rename_i hk
      have hk : (k == NameKind.cell) = false := by simpa using hk
      unfold cellsFrom pushCells
      rw [hk]
      exact cellsFrom_none r a acc h e
theorem newEnv_comp {M : Model} {A : Around} {E : Value → Shared → Prop} {s : Shared} {globals : Addr} {cl : List (Str × Addr)} {qual : Str} {env : PySem.Env} {Q : PySem.Env → Shared → Prop} (S : CompSc X scope x)
    (h : ∀ h₁, h₁.Ns s.heap.objs.size (fun _ => Option.none) → (∀ b o, s.heap.get? b = some o → h₁.get? b = some o) → (scope.names.lookup x = some .cell → h₁.IsCell (s.heap.objs.size + 1) Option.none) →
      Q (newEnv scope s.heap.objs.size globals (cellsX scope x (s.heap.objs.size + 1) cl) qual Option.none .none (some env) builtinsNs) { s with heap := h₁ }) :
    wpAny M A (newFunctionEnv scope globals cl [] qual Option.none .none (some env)) Q E s := by
  simp only [newFunctionEnv, Option.isSome_some, if_true]
  refine wpAny_bind (wpAny_alloc ?_)
  refine wpAny_bind (wpAny_layCells _ (fun name kind cells => by cases hkc : kind == NameKind.cell <;> simp [hkc]) _ _ _ _ ?_)
  rw [List.forIn_nil]
  refine wpAny_bind (wpAny_pure (wpAny_pure ?_))
  rw [show ({ s with heap := s.heap.push { cls := .type "dict", data := .dict #[] } } : Shared).heap.objs.size = s.heap.objs.size + 1 from Heap.size_push ..]
  have hc := S.cell1
  by_cases hx : scope.names.lookup x = some .cell
  · rw [if_pos hx] at hc
    obtain ⟨e1, e2⟩ := cellsFrom_one (x := x) scope.names (s.heap.objs.size + 1) cl (s.heap.push { cls := .type "dict", data := .dict #[] }) hc
    have h' := h (pushCells (s.heap.push { cls := .type "dict", data := .dict #[] }) scope.names) ((Heap.Ns.new s.heap (.type "dict")).keeps (pushCells_keeps _ _)) (fun b o e => pushCells_keeps _ _ b o (Heap.get?_push_of_some _ e)) (fun _ => by
      rw [e2]
      have : (s.heap.push { cls := .type "dict", data := .dict #[] }).objs.size = s.heap.objs.size + 1 := Heap.size_push ..
      rw [← this]
      exact ⟨_, Heap.get?_push_size _ rfl, rfl⟩)
    rw [e1]
    unfold cellsX at h'
    rw [if_pos hx] at h'
    exact h'
  · rw [if_neg hx] at hc
    obtain ⟨e1, e2⟩ := cellsFrom_none scope.names (s.heap.objs.size + 1) cl (s.heap.push { cls := .type "dict", data := .dict #[] }) hc
    have h' := h (pushCells (s.heap.push { cls := .type "dict", data := .dict #[] }) scope.names) ((Heap.Ns.new s.heap (.type "dict")).keeps (pushCells_keeps _ _)) (fun b o e => pushCells_keeps _ _ b o (Heap.get?_push_of_some _ e)) (fun z => absurd z hx)
    rw [e1]
    unfold cellsX at h'
    rw [if_neg hx] at h'
    exact h'
theorem CompSc.cells (S : CompSc X scope x) (ok : X.Ok) : ∀ y ∈ scope.names, y.2 = .free → (X.env.cells.lookup y.1).isSome = true := fun y hy hk => by
  obtain ⟨c, hc⟩ := ok.has y.1 (S.free y hy hk)
  rw [hc]; rfl
theorem CompSc.look (S : CompSc X scope x) (ok : X.Ok) {y : Str} {c : Addr} (h : (compX X scope x s₃ H₃ fp pins).env.cells.lookup y = some c) :
    (y = x ∧ scope.names.lookup x = some .cell ∧ c = s₃.heap.objs.size + 1) ∨ ((y ≠ x ∨ scope.names.lookup x ≠ some .cell) ∧ X.env.cells.lookup y = some c) := by
  have h : (cellsX scope x (s₃.heap.objs.size + 1) (clos X.env scope.names [])).lookup y = some c := h
  have old : (clos X.env scope.names []).lookup y = some c → X.env.cells.lookup y = some c := fun h => by
    rcases clos_lookup (S.cells ok) h with q | q
    · cases q
    · exact q
  unfold cellsX at h
  split at h
  · rename_i hc
    rw [List.lookup_cons] at h
    split at h
    · rename_i e
      cases h
      exact .inl ⟨by simpa using e, hc, rfl⟩
    · rename_i e
      exact .inr ⟨.inl (by simpa using e), old h⟩
  · rename_i hc
    exact .inr ⟨.inr hc, old h⟩
theorem CompSc.kindOf (S : CompSc X scope x) {y : Str} (h : (compX X scope x s₃ H₃ fp pins).env.kindOf y = some .cell ∨ (compX X scope x s₃ H₃ fp pins).env.kindOf y = some .free) : scope.names.lookup y = some .free ∨ (y = x ∧ scope.names.lookup x = some .cell) := by
  rcases h with h | h
  · rcases relabel_lookup (show _ = _ from h) with q | ⟨_, q⟩
    · exact .inr (S.onlyC q)
    · exact .inl q
  · rcases relabel_lookup (show _ = _ from h) with q | ⟨z, q⟩
    · exact .inl q
    · cases z
theorem CompSc.has (S : CompSc X scope x) {y : Str} (h : scope.names.lookup y = some .free) : ∃ c, (compX X scope x s₃ H₃ fp pins).env.cells.lookup y = some c ∧ (clos X.env scope.names []).lookup y = some c := by
  obtain ⟨c, hc⟩ := Option.isSome_iff_exists.mp (clos_has (env := X.env) (names := scope.names) (acc := []) (y := y) (.inr (lookup_mem h)))
  refine ⟨c, ?_, hc⟩
  show (cellsX scope x (s₃.heap.objs.size + 1) (clos X.env scope.names [])).lookup y = some c
  unfold cellsX
  split
  · rename_i hx
    have : (y == x) = false := by
      cases e : y == x with
      | false => rfl
      | true => have e : y = x := by simpa using e
                subst e; rw [h] at hx; cases hx
    rw [List.lookup_cons, this]
    exact hc
  · exact hc
theorem relabel_cell {env : PySem.Env} {y : Str} : ∀ {names : List (Str × NameKind)}, names.lookup y = some .cell →
    (names.map fun (z : Str × NameKind) => match z with | (n, k) => if (k == NameKind.free && env.scope.kind == .function && env.kindOf n == some .cell) = true then (n, NameKind.cell) else (n, k)).lookup y = some .cell
  | [], h => by cases h
  | (n, j) :: r, h => by
    rw [List.lookup_cons] at h
    rw [List.map_cons, List.lookup_cons]
    by_cases hc : (j == NameKind.free && env.scope.kind == .function && env.kindOf n == some .cell) = true
    · simp only [hc, if_true]
      cases e : y == n with
      | true => rfl
      | false => rw [e] at h; exact relabel_cell h
    · simp only [hc, Bool.false_eq_true, if_false]
      cases e : y == n with
      | true => rw [e] at h; exact h
      | false => rw [e] at h; exact relabel_cell h
theorem CompSc.locX (S : CompSc X scope x) : Loc (compX X scope x s₃ H₃ fp pins).env.scope x := by
  rcases S.loc with h | h
  · exact .inl (lookup_relabel_local h)
  · exact .inr (relabel_cell h)
theorem CompSc.fnX (S : CompSc X scope x) : (compX X scope x s₃ H₃ fp pins).fn x = true ∨ (compX X scope x s₃ H₃ fp pins).env.scope.names.lookup x = some .local := by
  rcases S.loc with h | h
  · exact .inr (lookup_relabel_local h)
  · left
    show (decide (x = x) && decide (scope.names.lookup x = some .cell)) = true
    simp [h]
theorem comp_ok (S : CompSc X scope x) (I : Inv X pins σ H₃ s₃) (hf : ∀ b ∈ fp, FpOk X pins H₃ b) (hlt : ∀ b ∈ fp, b < s₃.heap.objs.size) : (compX X scope x s₃ H₃ fp pins).Ok where
  mod := I.ok.mod
  kind := S.kind
  glob := I.ok.glob
  blt := I.ok.blt
  above := Nat.le_refl _
  inj := fun y z c h1 h2 => by
    have old : ∀ {y : Str} {c : Addr}, X.env.cells.lookup y = some c → c < s₃.heap.objs.size := fun {y c} h => by
      obtain ⟨v, o, ho, _⟩ := I.cell y c h
      exact Heap.lt_size ho
    rcases S.look I.ok h1 with ⟨e1, _, e2⟩ | ⟨_, q1⟩
    · rcases S.look I.ok h2 with ⟨e3, _, e4⟩ | ⟨_, q2⟩
      · rw [e1, e3]
      · have := old q2; rw [e2] at this; exact absurd this (Nat.not_lt.mpr (Nat.le_succ _))
    · rcases S.look I.ok h2 with ⟨e3, _, e4⟩ | ⟨_, q2⟩
      · have := old q1; rw [e4] at this; exact absurd this (Nat.not_lt.mpr (Nat.le_succ _))
      · exact I.ok.inj y z c q1 q2
  has := fun y h => by
    rcases S.kindOf h with q | ⟨q1, q2⟩
    · obtain ⟨c, hc, _⟩ := S.has (s₃ := s₃) (H₃ := H₃) (fp := fp) (pins := pins) q
      exact ⟨c, hc⟩
    · refine ⟨s₃.heap.objs.size + 1, ?_⟩
      show (cellsX scope x (s₃.heap.objs.size + 1) (clos X.env scope.names [])).lookup y = _
      unfold cellsX
      rw [if_pos q2, q1, List.lookup_cons, beq_self_eq_true]
  cab := fun y c h hc => by
    have h : (decide (y = x) && decide (scope.names.lookup x = some .cell)) = true := h
    rw [Bool.and_eq_true, decide_eq_true_iff, decide_eq_true_iff] at h
    rcases S.look I.ok hc with ⟨_, _, e⟩ | ⟨q, _⟩
    · rw [e]; exact Nat.le_succ _
    · exact absurd h (fun z => q.elim (fun w => w z.1) fun w => w z.2)
  hd := I.ok.hd
  frames := I.ok.frames
  stk := .inl rfl
  exf := fun b hb => ⟨Nat.ne_of_lt (hlt b hb), fun y c h => by
    rcases S.look I.ok h with ⟨_, _, e⟩ | ⟨_, q⟩
    · rw [e]; exact fun z => absurd (z ▸ hlt b hb) (Nat.not_lt.mpr (Nat.le_succ _))
    · exact (hf b hb).2.2.2.2.1 y c q⟩
  bs := I.bs
  bsz := Nat.le_trans I.ok.bsz I.sz
  noex := fun b o e hb => by
    obtain ⟨_, _, _, h, _⟩ := hf b hb
    rcases h with h | h
    · exact I.ok.noex b o e h
    · exact absurd (Nat.lt_of_lt_of_le (Heap.lt_size e) (Nat.le_trans I.ok.bsz h)) (Nat.lt_irrefl _)
  exfs := fun b hb hz => by
    obtain ⟨_, h1, h2, _⟩ := hf b hb
    rcases List.mem_cons.mp (I.stkSub b hz) with e | e
    · exact h1 e
    · exact h2 e
  funs := I.stack
  frf := I.stkFree
theorem hide_get {N : List Str} {i : Nat} {y : Str} (h : (hide x N)[i]? = some y) : ∃ z, N[i]? = some z ∧ ((z = x ∧ y = "") ∨ (z ≠ x ∧ y = z)) := by
  unfold hide at h
  rw [List.getElem?_map, Option.map_eq_some_iff] at h
  obtain ⟨z, e1, e2⟩ := h
  refine ⟨z, e1, ?_⟩
  split at e2
  · exact .inl ⟨by assumption, e2.symm⟩
  · exact .inr ⟨by assumption, e2.symm⟩
theorem comp_inv {h₁ : Heap} {tk : Nat} (S : CompSc X scope x) (I : Inv X pins σ H₃ s₃) (hf : ∀ b ∈ fp, FpOk X pins H₃ b) (hlt : ∀ b ∈ fp, b < s₃.heap.objs.size) (hns : h₁.Ns s₃.heap.objs.size fun _ => Option.none)
    (hk : ∀ b o, s₃.heap.get? b = some o → h₁.get? b = some o) (hcell : scope.names.lookup x = some .cell → h₁.IsCell (s₃.heap.objs.size + 1) Option.none) : Inv (compX X scope x s₃ H₃ fp pins) [] (Option.none :: σ) H₃ { s₃ with heap := h₁, toks := tk } := by
  refine ⟨comp_ok S I hf hlt, rfl, I.bare, Un.kept hk, ⟨_, hns, fun i y v h1 h2 h3 => ?_⟩, fun y c h => ?_, I.hok.fresh (Nat.le_refl _), fun y c h => ?_, fun p hp => ?_, I.hok.kept hk, ?_⟩
  · cases i with
    | zero => cases h2
    | succ i =>
      have h1 : (hide x X.N)[i]? = some y := h1
      have h2 : σ[i]? = some (some v) := h2
      obtain ⟨z, e1, e2⟩ := hide_get h1
      have vis : scope.names.lookup y = some .local ∨ scope.names.lookup y = some .free := by
        rcases h3 with q | q
        · rcases relabel_lookup (show _ = _ from q) with q | ⟨z, q⟩
          · exact .inl q
          · cases z
        · rcases S.kindOf q with q | ⟨q, _⟩
          · exact .inr q
          · exfalso
            rcases e2 with ⟨_, z⟩ | ⟨ne, z⟩
            · have hx : x = "" := q.symm.trans z
              have hn := S.none
              rw [← hx] at hn
              rcases S.loc with w | w <;> rw [hn] at w <;> cases w
            · exact ne (z.symm.trans q)
      rcases e2 with ⟨rfl, rfl⟩ | ⟨ne, rfl⟩
      · rw [S.none] at vis
        rcases vis with q | q <;> cases q
      · rcases vis with q | q
        · exact absurd (S.own y (List.mem_of_getElem? e1) q) ne
        · have kx := S.free _ (lookup_mem q) rfl
          obtain ⟨m, _, hl⟩ := I.loc
          obtain ⟨u, ru, l⟩ := hl i y v e1 h2 (.inr kx)
          refine ⟨u, ru, .inr ⟨?_, ?_⟩⟩
          · rcases h3 with q' | q'
            · rcases relabel_lookup (show _ = _ from q') with q' | ⟨z, _⟩
              · rw [q] at q'; cases q'
              · cases z
            · exact q'
          · rcases l with ⟨k, _⟩ | ⟨_, c, hc, hcell'⟩
            · have k : X.env.scope.names.lookup y = some .local := k
              rcases kx with z | z
              · have z : X.env.scope.names.lookup y = some .cell := z
                rw [z] at k; cases k
              · have z : X.env.scope.names.lookup y = some .free := z
                rw [z] at k; cases k
            · obtain ⟨c', hc', hc2⟩ := S.has (s₃ := s₃) (H₃ := H₃) (fp := fp) (pins := pins) q
              have e : X.env.cells.lookup y = some c' := by
                rcases clos_lookup (S.cells I.ok) hc2 with q | q
                · cases q
                · exact q
              rw [hc] at e
              cases e
              obtain ⟨o, ho, hd⟩ := hcell'
              exact ⟨c, hc', o, hk _ _ ho, hd⟩
  · rcases S.look I.ok h with ⟨_, q, e⟩ | ⟨_, q⟩
    · rw [e]; exact ⟨Option.none, hcell q⟩
    · obtain ⟨v, o, ho, hd⟩ := I.cell y c q
      exact ⟨v, o, hk _ _ ho, hd⟩
  · rcases S.look I.ok h with ⟨_, q, e⟩ | ⟨_, q⟩
    · rw [e]; exact I.hok.fresh (Nat.le_succ _)
    · exact I.freeC y c q
  · have hp : p ∈ X.pn ++ pins := by simpa [compX] using hp
    obtain ⟨e, n, ne, nf, d⟩ := I.pin p hp
    refine ⟨hk _ _ e, n, Nat.ne_of_lt (Heap.lt_size e), fun z => ?_, d⟩
    rcases List.mem_cons.mp (I.stkSub _ z) with q | q
    · exact ne q
    · exact nf q
  · show σ.length + 1 = (x :: hide x X.N).length
    unfold hide
    rw [List.length_cons, List.length_map, I.len]
theorem comp_back {s' : Shared} {h' : Heap} {H' : Hp} {σ' : St} {ps : List (Addr × Obj)} (I : Inv X pins σ H₃ s₃) (hf : ∀ b ∈ fp, FpOk X pins H₃ b) (J : Inv (compX X scope x s₃ H₃ fp pins) ps σ' H' s') (hs : Heap.SameBut s₃.heap.objs.size s'.heap h') :
    Inv X pins σ H' { s' with heap := h' } := by
  have ne : ∀ b o, s₃.heap.get? b = some o → b ≠ s₃.heap.objs.size := fun b o e => Nat.ne_of_lt (Heap.lt_size e)
  have fr : H' s₃.heap.objs.size = Option.none := J.free
  have same : ∀ b, b ≠ s₃.heap.objs.size → h'.get? b = s'.heap.get? b := fun b hb => hs.2 b hb
  refine I.call' (s' := { s' with heap := h' }) (ch := fp) J.os ⟨fun b o e n hb hx => ?_, fun b o e n hb hx => ?_, fun b o e n hx => J.base.free b o e n hx, fun b o e hx => ?_, J.base.tups, J.base.frzs, J.base.tbls⟩ (fun b o e => ?_) J.bare fun b hb => ?_
  · exact (same b (ne b o e)).trans (J.base.keep b o e n hb hx)
  · obtain ⟨sl, q⟩ := J.base.slot b o e n hb hx
    exact ⟨sl, (same b (ne b o e)).trans q⟩
  · obtain ⟨o', q⟩ := J.base.there b o e hx
    exact ⟨o', (same b (ne b o e)).trans q⟩
  · refine (J.hok b o e).stay (fun c v hc q => (same c ?_).trans q) (fun _ q => q) fun _ _ q => q
    intro z
    rcases hc with w | w
    · rw [← w, z, fr] at e; cases e
    · rw [z, fr] at w; cases w
  · obtain ⟨_, h1, _, h3, h4, h5⟩ := hf b hb
    exact ⟨h3, h1, h4, h5⟩
end
theorem comp_turns {prog : Program} {w : World} {A : Around} {E : Result → Shared → Prop} {s : Shared} {elt target iter : Expr} {ifs : List Expr} {scope : Scope} {pos : Pos} {it acc : Value} {env : PySem.Env} (J : Nat → Shared → Prop)
    (turn : ∀ n s, J n s → wpAny (model prog w) A (pyNext it) (fun r s1 => match r with
      | Option.none => E (.ok .next) s1
      | some v => wpAny (model prog w) A (letOwnedTupleGo target it v) (fun _ s2 => wpAny (model prog w) A (assign target env v) (fun _ s3 =>
          wpAny (model prog w) A (forIn ifs true fun c r => if r = true then do let ok ← isTrue c env (eval c env); pure (ForInStep.yield ok) else pure (ForInStep.yield r)) (fun ok s4 =>
            if ok = true then wpAny (model prog w) A (eval elt env) (fun y s5 => wpAny (model prog w) A (call (.builtin "list.append") [acc, y]) (fun _ s6 => ∃ m, m < n ∧ J m s6) (fun _ _ => False) s5) (fun _ _ => False) s4
            else ∃ m, m < n ∧ J m s4) (fun _ _ => False) s3) (fun _ _ => False) s2) (fun _ _ => False) s1) (fun _ _ => False) s)
    (n : Nat) (h : J n s) : codeAny (model prog w) A (.compLoop (.ListComp elt [⟨target, iter, ifs, 0⟩] scope pos) 0 it acc env) E s := by
  refine codeAny_loop rfl J (fun n s hJ => ?_) n h
  show wpAny _ _ ((compTurn (.ListComp elt [⟨target, iter, ifs, 0⟩] scope pos) 0 it acc env).onRaise _) _ _ s
  refine wpAny_noted ?_
  rw [compTurn_list]
  have no : ∀ (e : Value) (s' : Shared), False → notedBy (model prog w) A env (fun e s' => E (.error e) s') e s' := fun _ _ z => z.elim
  refine wpAny_bind (wpAny_standAt (wpAny_bind (wpAny_mono (turn n s hJ) (fun r s1 h1 => ?_) no)))
  cases r with
  | none => exact wpAny_pure h1
  | some v =>
    refine wpAny_bind (wpAny_mono h1 (fun _ s2 h2 => ?_) no)
    refine wpAny_bind (wpAny_mono h2 (fun _ s3 h3 => wpAny_bind (wpAny_mono h3 (fun ok s4 h4 => ?_) no)) no)
    cases ok with
    | false => exact wpAny_pure ⟨rfl, h4⟩
    | true => exact wpAny_bind (wpAny_bind (wpAny_mono h4 (fun y s5 h5 => wpAny_bind (wpAny_mono h5 (fun _ s6 h6 => wpAny_pure (wpAny_pure ⟨rfl, h6⟩)) no)) no))
theorem R.cons {K : PySem.W.Frag} {W : Addr → Prop} {ρ : LW.Env} {σ : St} {H : Hp} {d : D} {v : V} (r : R K W ρ σ H) (h : Rep K W H d v) : R K W (some (.val d) :: ρ) (some v :: σ) H := by
  refine ⟨fun i e hi => ?_, fun i e hi => ?_, fun i x e hi hc => ?_, fun i j x y d e a h1 h2 c1 c2 h3 h4 => ?_, r.wf, by simpa using r.len⟩
  · cases i with
    | zero => cases hi; exact ⟨v, rfl, h⟩
    | succ i => exact r.val i e hi
  · cases i with
    | zero => cases hi
    | succ i => exact r.nol i e hi
  · cases i with
    | zero => cases hi; cases hc
    | succ i => exact r.own i x e hi hc
  · cases i with
    | zero => cases h1; cases c1
    | succ i =>
      cases j with
      | zero => cases h2; cases c2
      | succ j => rw [r.inj i j x y d e a h1 h2 c1 c2 h3 h4]
noncomputable def CondOk (X : Cx) (fn : Nat → List D → Option SV) (scope : Scope) (x : Str) (ifs : List Expr) (cond : E) : Prop :=
  (ifs = [] ∧ cond = .bl true) ∨ ∃ c, ifs = [c] ∧ ∀ s₃ H₃ fp pins, IT (compX X scope x s₃ H₃ fp pins) fn c cond
section
variable {X : Cx} {fn : Nat → List D → Option SV}
theorem cond_run {scope : Scope} {x : Str} {ifs : List Expr} {cond : E} {s₃ : Shared} {H₃ : Hp} {fp : List Addr} {pins ps : List (Addr × Obj)} {σ : St} {H : Hp} {s : Shared} {W : Addr → Prop} {ρ : LW.Env} {k : Bool} {Q : Bool → Hp → Prop}
    (hc : CondOk X fn scope x ifs cond) (I : Inv (compX X scope x s₃ H₃ fp pins) ps σ H s) (hR : R X.K W ρ σ H) (he : evT fn cond ρ = some k) (q : ∀ H', Same H H' → Q k H') :
    wpAny (model X.prog X.w) X.A (forIn ifs true fun c r => if r = true then do let ok ← isTrue c (compX X scope x s₃ H₃ fp pins).env (eval c (compX X scope x s₃ H₃ fp pins).env); pure (ForInStep.yield ok) else pure (ForInStep.yield r))
      (TP (compX X scope x s₃ H₃ fp pins) ps σ Q) (fun _ _ => False) s := by
  rcases hc with ⟨rfl, rfl⟩ | ⟨c, rfl, hc⟩
  · simp only [evT] at he
    cases he
    exact wpAny_tests_nil ⟨H, I, q H (.refl H)⟩
  · exact wpAny_tests_one ((hc s₃ H₃ fp pins).h ps s σ H Q I ⟨W, ρ, k, hR, he, q⟩)
theorem compL_len {test : D → Option Bool} {elt : D → Option SV} : ∀ {ds out : List D}, compL test elt ds = some out → out.length ≤ ds.length
  | [], _, h => by simp only [compL] at h; cases h; exact Nat.le_refl _
  | d :: r, out, h => by
    simp only [compL, Option.bind_eq_some_iff] at h
    obtain ⟨b, e1, e2⟩ := h
    cases b with
    | true =>
      simp only [Option.bind_eq_some_iff, Option.map_eq_some_iff] at e2
      obtain ⟨_, _, _, _, l, e3, rfl⟩ := e2
      have := compL_len e3
      simp; omega
    | false => have := compL_len e2; simp; omega
theorem fp_comp {scope : Scope} {x : Str} {s₃ : Shared} {H₃ H' : Hp} {fp : List Addr} {pins : List (Addr × Obj)} {σ : St} (S : CompSc X scope x) (I : Inv X pins σ H₃ s₃) (hf : ∀ b ∈ fp, FpOk X pins H₃ b) (hlt : ∀ b ∈ fp, b < s₃.heap.objs.size)
    (hn : ∀ b ∈ fp, H' b = Option.none) : ∀ b ∈ fp, FpOk (compX X scope x s₃ H₃ fp pins) [] H' b := fun b hb => by
  have ok := comp_ok S I hf hlt
  refine ⟨hn b hb, (ok.exf b hb).1, ok.exfs b hb, .inl hb, (ok.exf b hb).2, fun p hp => ?_⟩
  have hp : p ∈ X.pn ++ pins := by simpa [compX] using hp
  exact (hf b hb).2.2.2.2.2 p hp
structure CSt (X : Cx) (scope : Scope) (x : Str) (s₃ : Shared) (H₃ : Hp) (fp : List Addr) (pins : List (Addr × Obj)) (σ : St) (tn : Nat → Heap → Prop) (H2 : Hp) (W : Addr → Prop) (L : Addr) (test : D → Option Bool) (elt : D → Option SV) (ds out : List D)
    (n k : Nat) (y : Option V) (H' : Hp) (ys : List V) (out1 rest : List D) (s' : Shared) : Prop where
  inv : Inv (compX X scope x s₃ H₃ fp pins) [] (y :: σ) H' s'
  htn : tn k s'.heap
  hfp : ∀ b ∈ fp, H' b = Option.none
  hn : n = ds.length + 1 - k
  hk : k ≤ ds.length
  same : Same H2 H'
  lst : H' L = some (.lst ys)
  reps : Reps X.K (add W L) H' out1 ys
  hrest : compL test elt (ds.drop k) = some rest
  hout : out = out1 ++ rest
theorem comp_core {iter elt : Expr} {x : Str} {px pos pos2 : Pos} {ifs : List Expr} {scope : Scope} {rng : Bool} {src : Es} {cond ce : E} {pins : List (Addr × Obj)} {s : Shared} {σ : St} {H : Hp} {W : Addr → Prop} {ρ : LW.Env} {rs : List SV} {ds out : List D} {use : Option (Value → Sem Unit)} {Qe : Value → Shared → Prop}
    (hcalm : X.calm = true) (S : CompSc X scope x) (hsrc : Src X fn (.Name x px) iter rng src)
    (hcond : CondOk X fn scope x ifs cond) (helt : ∀ s₃ H₃ fp pins, IE (compX X scope x s₃ H₃ fp pins) fn elt ce) (hfo : ∀ y, foldedSetIterable iter X.env y = pure y) (I : Inv X pins σ H s) (hR : R X.K W ρ σ H)
    (e1 : evEs fn src ρ = some rs) (e2 : itemsOf rng rs = some ds) (hline : ds.length ≤ line) (e3 : compL (fun d => evT fn cond (some (.val d) :: ρ)) (fun d => evE fn ce (some (.val d) :: ρ)) ds = some out)
    (fin : ∀ (s4 : Shared) (fl : Flow) (m : Str → Option Value) (C L : Addr) (H' : Hp), s4.heap.Ns C m → (∀ h', Heap.SameBut C s4.heap h' → Inv X pins σ H' { s4 with heap := h' }) → (X.s₀.heap.objs.size ≤ C ∧ C ≠ X.env.locals ∧ (∀ y c, X.env.cells.lookup y = some c → c ≠ C) ∧ (∀ p ∈ X.pn ++ pins, p.1 ≠ C) ∧ H' C = Option.none) → Same H H' →
      Res X.K W H H' (.obj true (.lst out)) (.ref L) → compPost (model X.prog X.w) X.A X.xe use Qe (.ref L) C (.ok fl) s4) :
    wpAny (model X.prog X.w) X.A (comprehension (.ListComp elt [⟨.Name x px, iter, ifs, 0⟩] scope pos) scope X.env pos2 (newList []) false (eval iter X.env) use) Qe X.xe s := by
  have hclos := closureFor_clos (scope := scope) (env := X.env) (S.cells I.ok)
  refine wpAny_comprehension_free (use := use) rfl hfo hclos S.kind S.names ?_
  refine thn (hsrc.h pins s σ H (fun J H2 => Same H H2 ∧ Ys X.K J W H2 ds) I ⟨W, ρ, rs, ds, hR, e1, e2, fun J H' s1 y _ => ⟨s1, y⟩⟩) fun v s1 h1 => thn h1 fun itv s2 h2 => ?_
  obtain ⟨it, fp, tn, J, H2, rfl, I2, T, st2, f2, sm, hy⟩ := h2
  -- the list that grows
  refine wpAny_newObj_type (newEnv_comp S fun h₁ hns₁ hk₁ hc₁ => ?_)
  have I3 := I2.lnew (t' := s2.toks) (ys := []) (its := []) .nil (Nat.zero_le _)
  have hD : H2 s2.heap.objs.size = Option.none := I2.fresh
  generalize hL : s2.heap.objs.size = L at hD
  generalize hs3 : ({ s2 with heap := s2.heap.push { cls := .type "list", data := .seq ([] : List Value).toArray }, toks := s2.toks } : Shared) = s₃ at I3
  have hs3h : s₃.heap = s2.heap.push { cls := .type "list", data := .seq ([] : List Value).toArray } := by rw [← hs3]
  rw [hL] at I3
  generalize hH3 : upd H2 L (.lst []) = H₃ at I3
  have blt : ∀ b ∈ fp, b < s2.heap.objs.size := fun b hb => by
    obtain ⟨o, e, _⟩ := T.obj _ _ st2 b hb
    exact Heap.lt_size e
  have hlt : ∀ b ∈ fp, b < s₃.heap.objs.size := fun b hb => by rw [hs3h, Heap.size_push]; exact Nat.lt_succ_of_lt (blt b hb)
  have hf : ∀ b ∈ fp, FpOk X pins H₃ b := fun b hb => by
    refine ⟨?_, (f2 b hb).2⟩
    rw [← hH3, upd_ne (by rw [← hL]; exact Nat.ne_of_lt (blt b hb))]
    exact (f2 b hb).1
  have keep1 : ∀ b o, s₃.heap.get? b = some o → h₁.get? b = some o := fun b o e => by
    rw [hs3h] at e
    exact hk₁ b o e
  have ns1 : h₁.Ns s₃.heap.objs.size fun _ => Option.none := by rw [hs3h]; exact hns₁
  have Ic := comp_inv (tk := s2.toks) S I3 hf hlt ns1 keep1 (by rw [hs3h]; exact hc₁)
  have fpc := fun {H' : Hp} hn => fp_comp (H' := H') S I3 hf hlt hn
  have win : ∀ b, add W L b → W b ∨ H2 b = Option.none := fun b w => by
    rcases w with w | rfl
    · exact .inl w
    · exact .inr hD
  have hRL : ∀ {H' : Hp} {ys : List V}, Same H2 H' → H' L = some (.lst ys) → R X.K (add W L) ρ σ H' := fun {H' ys} sm' e => (hR.same sm).add sm' hD e
  have lenO : out.length ≤ ds.length := compL_len e3
  have loop : ∀ s' : Shared, s' = { s₃ with heap := h₁, toks := s2.toks } → codeAny (model X.prog X.w) X.A (.compLoop (.ListComp elt [⟨.Name x px, iter, ifs, 0⟩] scope pos) 0 (.ref it) (.ref L) (compX X scope x s₃ H₃ fp pins).env)
      (compPost (model X.prog X.w) X.A X.xe use Qe (.ref L) s₃.heap.objs.size) s' := by
    rintro s' rfl
    refine comp_turns (fun n s' => ∃ k y H' ys out1 rest, CSt X scope x s₃ H₃ fp pins σ tn H2 W L (fun d => evT fn cond (some (.val d) :: ρ)) (fun d => evE fn ce (some (.val d) :: ρ)) ds out n k y H' ys out1 rest s') ?_ (ds.length + 1)
      ⟨0, Option.none, H₃, [], [], out, Ic, T.keep _ _ _ st2 (fun b hb o e => keep1 b o (by rw [hs3h]; exact Heap.get?_push_of_some _ e)), fun b hb => (hf b hb).1, rfl, Nat.zero_le _, by rw [← hH3]; exact same_upd hD _, by rw [← hH3]; exact upd_same, .nil, e3, rfl⟩
    rintro n s' ⟨k, y, H', ys, out1, rest, c⟩
    obtain ⟨hstop, hgo⟩ := hy (add W L) H' c.same win k
    by_cases hk : k < ds.length
    · have hd : ds[k]? = some ds[k] := by simp [hk]
      obtain ⟨g1, g2⟩ := hgo _ hd
      have crest := c.hrest
      rw [drop_cons hd] at crest
      simp only [compL, Option.bind_eq_some_iff] at crest
      obtain ⟨b, t1, t2⟩ := crest
      refine thn (T.item (compX X scope x s₃ H₃ fp pins) rfl rfl rfl hcalm k [] s' (y :: σ) H' _ c.inv (fpc c.hfp) c.htn g1) fun r s4 ⟨u, hr, h4⟩ => ?_
      subst hr
      refine thn h4 fun _ s5 ⟨xv, H5, I5, r5, y5, st5, fr5⟩ => ?_
      obtain ⟨rfl, rv⟩ := g2 xv H5 y5
      have I5' := I5.pinned (fpc fr5) (T.obj _ _ st5)
      refine thn (pg_name (X := compX X scope x s₃ H₃ fp pins) (i := 0) S.nd rfl S.locX S.fnX _ s5 (y :: σ) H5 xv u (fun σ' H' => σ' = some xv :: σ ∧ H' = H5) I5' r5 ⟨rfl, rfl⟩) fun _ s6 ⟨σ6, H6, I6, q6, q7⟩ => ?_
      subst q6 q7
      have hRc := (hRL c.same c.lst).cons rv
      refine thn (cond_run (Q := fun b' H7 => b' = b ∧ Same H6 H7) hcond I6 hRc t1 fun H7 s7 => ⟨rfl, s7⟩) fun ok s7 ⟨H7, I7, q7, m7⟩ => ?_
      subst q7
      have back : ∀ {s' : Shared} {H' : Hp}, Inv (compX X scope x s₃ H₃ fp pins) ([] ++ pinsAt fp s5.heap) (some xv :: σ) H' s' → tn (k + 1) s'.heap ∧ ∀ b ∈ fp, H' b = Option.none := fun {s' H'} J => by
        refine ⟨T.keep _ _ _ st5 fun b hb o e => (J.pin (b, o) (List.mem_append_right _ (List.mem_append_right _ (mem_pinsAt hb e)))).1, fun b hb => ?_⟩
        obtain ⟨o, e, d⟩ := T.obj _ _ st5 b hb
        exact (J.pin (b, o) (List.mem_append_right _ (List.mem_append_right _ (mem_pinsAt hb e)))).2.1
      cases ok with
      | false =>
        rw [if_neg Bool.false_ne_true]
        have bk := back I7
        exact ⟨_, by have := c.hn; omega, k + 1, some xv, H7, ys, out1, rest, I7.unpinned, bk.1, bk.2, rfl, hk, c.same.trans m7, m7 _ _ c.lst, c.reps.ext (.same m7), t2, c.hout⟩
      | true =>
        rw [if_pos rfl]
        simp only [Option.bind_eq_some_iff, Option.map_eq_some_iff] at t2
        obtain ⟨r8, t3, d8, t4, rest', t5, rfl⟩ := t2
        have hR7 := hRc.same m7
        refine thn ((helt s₃ H₃ fp pins).h _ s7 _ H7 (fun v H8 => Same H7 H8 ∧ Rep X.K (add W L) H8 d8 v) I7 ⟨add W L, _, r8, hR7, t3, fun v8 H8 m8 res => ⟨m8, (res.frz hR7.wf).toD t4⟩⟩) fun u8 s8 ⟨v8, H8, I8, rl8, m8, rp8⟩ => ?_
        have lst8 := m8 _ _ (m7 _ _ c.lst)
        have lenY := c.reps.length
        have lenT := congrArg List.length c.hout
        rw [List.length_append, List.length_cons] at lenT
        have le := line_eq
        refine thn (mt_append (X := compX X scope x s₃ H₃ fp pins) _ s8 _ H8 (.ref L) [v8] (.ref L) [u8] (fun _ H9 => H9 = upd H8 L (.lst (ys ++ [v8]))) I8 rfl (.cons rl8 .nil) ⟨L, ys, v8, rfl, rfl, lst8, by omega, rfl⟩) fun _ s9 ⟨_, H9, I9, _, q9⟩ => ?_
        subst q9
        have bk := back I9
        have ext : Ext (add W L) H8 (add W L) (upd H8 L (.lst (ys ++ [v8]))) := by
          refine ⟨fun b o q n => ?_, fun b zs q => ?_, fun b o u q => ?_, fun b w => .inl w⟩
          · rw [upd_ne (fun z => n (.inr z))]; exact q
          · rw [upd_ne (fun z => by rw [z, lst8] at q; cases q)]; exact q
          · rw [upd_ne (fun z => by rw [z, lst8] at q; cases q)]; exact q
        have smL : Same H2 (upd H8 L (.lst (ys ++ [v8]))) := fun b o q => by
          rw [upd_ne (fun z => by rw [z, hD] at q; cases q)]
          exact m8 _ _ (m7 _ _ (c.same _ _ q))
        exact ⟨_, by have := c.hn; omega, k + 1, some xv, _, ys ++ [v8], out1 ++ [d8], rest', I9.unpinned, bk.1, bk.2, rfl, hk, smL, upd_same, ((c.reps.ext (.same (m7.trans m8))).ext ext).append (.cons (rp8.ext ext) .nil), t5, by rw [c.hout]; simp⟩
    · have ek : k = ds.length := by have := c.hk; omega
      refine thn (T.done (compX X scope x s₃ H₃ fp pins) rfl rfl rfl hcalm k [] s' (y :: σ) H' _ c.inv (fpc c.hfp) c.htn (hstop ek)) fun r s4 ⟨hr, I4⟩ => ?_
      subst hr
      obtain ⟨m, hn, _⟩ := I4.loc
      have er := c.hrest
      rw [List.drop_of_length_le (by omega), compL] at er
      cases er
      have eo := c.hout
      rw [List.append_nil] at eo
      refine fin s4 _ m _ L H' hn (fun h' hs => comp_back I3 hf I4 hs) ⟨I3.sz, (Nat.ne_of_lt I3.lt).symm, fun y cc hc => ?_, fun p hp => ?_, I4.free⟩ (sm.trans c.same) (by rw [eo]; exact .new (sm.free hD) c.lst (.lst c.reps))
      · obtain ⟨v, o, ho, _⟩ := I3.cell y cc hc
        exact Nat.ne_of_lt (Heap.lt_size ho)
      · exact Nat.ne_of_lt (Heap.lt_size (I3.pin p hp).1)
  have st0 : tn 0 h₁ := T.keep _ _ _ st2 (fun b hb o e => keep1 b o (by rw [hs3h]; exact Heap.get?_push_of_some _ e))
  subst hs3 hL
  exact codeAny_compStart_list (loop _ rfl) (T.self X.A 0 _ _ _ st0 (loop _ rfl))
theorem i_comp {iter elt : Expr} {x : Str} {px pos : Pos} {ifs : List Expr} {scope : Scope} {rng : Bool} {src : Es} {cond ce : E} (hcalm : X.calm = true) (S : CompSc X scope x) (hsrc : Src X fn (.Name x px) iter rng src)
    (hcond : CondOk X fn scope x ifs cond) (helt : ∀ s₃ H₃ fp pins, IE (compX X scope x s₃ H₃ fp pins) fn elt ce) (hfo : ∀ y, foldedSetIterable iter X.env y = pure y := by intro _; rfl) :
    IE X fn (.ListComp elt [⟨.Name x px, iter, ifs, 0⟩] scope pos) (.comp rng src cond ce) := by
  refine .mk ?_
  rintro pins s σ H Q I ⟨W, ρ, r, hR, he, q⟩
  simp only [evE, Option.bind_eq_some_iff] at he
  obtain ⟨rs, e1, ds, e2, e3⟩ := he
  split at e3
  case isFalse => cases e3
  rename_i hline
  rw [Option.map_eq_some_iff] at e3
  obtain ⟨out, e3, rfl⟩ := e3
  rw [eval_ListComp]
  refine comp_core (use := Option.none) hcalm S hsrc hcond helt hfo I hR e1 e2 hline e3 fun s4 fl m C L H' hn back _ sm res => ?_
  exact ⟨m, hn, fun h' hs => ⟨.ref L, H', back h' hs, rfl, q _ H' sm res⟩⟩
end
end L2.LW
set_option linter.all false
set_option maxHeartbeats 4000000
namespace L2.LW
open PySem PySem.Spec PyProof.Rows
noncomputable def tyN : Ty → String
  | .bool => "bool" | .int => "int" | .str => "str" | .list => "list" | .tuple => "tuple"
noncomputable def dTy : D → String
  | .int _ => "int" | .bl _ => "bool" | .non => "NoneType" | .str _ => "str" | .tup _ => "tuple" | .lst _ => "list" | .dct _ _ _ => "dict"
theorem kit_ty (K : PySem.W.Frag) (d : D) (t : Ty) : PySem.W.kitOne K (.type (dTy d)) (.type (tyN t)) = some (hasTy t d) := by
  cases d <;> cases t <;> rfl
section
variable {X : Cx} {fn : Nat → List D → Option SV}
theorem inst_run {pins : List (Addr × Obj)} {σ : St} {H : Hp} {s : Shared} {W : Addr → Prop} {A : Around} {E Q : Value → Shared → Prop} {d : D} {x : V} {u : Value} {t : Ty} (I : Inv X pins σ H s) (h : Sees X.K W H d x) (r : RelV x u)
    (q : ∀ tk, Q (.bool (hasTy t d)) { s with toks := tk }) : wpAny (model X.prog X.w) A (call (.builtin "isinstance") [u, .type (tyN t)]) Q E s := by
  have e := kit_ty X.K d t
  cases d with
  | int i => cases h.int; obtain ⟨tk, rfl⟩ := r; exact PySem.W.kia_one PySem.W.kitx_int I.kIn True.intro e (fun z => nomatch z) q
  | bl b => cases h.bl; cases r; exact PySem.W.kia_one PySem.W.kitx_bool I.kIn True.intro e (fun z => nomatch z) q
  | non => cases h.non; cases r; exact PySem.W.kia_one PySem.W.kitx_none I.kIn True.intro e (fun z => nomatch z) q
  | str y => cases h.str; obtain ⟨tk, rfl⟩ := r; exact PySem.W.kia_one PySem.W.kitx_str I.kIn True.intro e (fun z => nomatch z) q
  | tup l =>
    obtain ⟨a, xs, rfl, hq, _⟩ := h.tup
    cases r
    obtain ⟨its, rv, ⟨o, ho, hc, n, hd⟩, hz⟩ := I.tuple hq
    exact PySem.W.kia_one PySem.W.kitx_tuple I.kIn ⟨o, ho, hc⟩ e (fun z => nomatch z) q
  | lst l =>
    obtain ⟨a, xs, rfl, hq, _⟩ := h.lst
    cases r
    obtain ⟨its, rv, ⟨o, n, ho, hc, _, hd⟩, hz⟩ := I.list hq
    exact PySem.W.kia_one PySem.W.kitx_list I.kIn ⟨o, ho, hc⟩ e (fun z => nomatch z) q
  | dct b ks vs =>
    cases b with
    | false =>
      obtain ⟨a, ns, ys, rfl, _, hH, _⟩ := h.dK
      cases r
      obtain ⟨_, _, vs, _, ob, _, _, h1, h2, _⟩ := dk_rd I.hok (.inl hH)
      exact PySem.W.kia_one PySem.W.kitx_dict I.kIn ⟨ob, h1, h2.1⟩ e (fun z => nomatch z) q
    | true =>
      obtain ⟨a, ns, ys, rfl, _, hH, _⟩ := h.dT
      cases r
      obtain ⟨_, _, xs, _, ob, _, _, h1, h2, _⟩ := dt_rd I.hok (.inl hH)
      exact PySem.W.kia_one PySem.W.kitx_dict I.kIn ⟨ob, h1, h2.1⟩ e (fun z => nomatch z) q
theorem vr_inst (t : Ty) : CallR X (.builtin "isinstance") (fun xs H Q => ∃ x, xs = [x, .ty (tyN t)] ∧ VR X.K (primD (.inst t)) [x] H Q) := by
  rintro pins s σ H xs us Q I rv ⟨x, rfl, W, ds, r, wf, hs, hf, q⟩
  obtain ⟨d, rfl, h1⟩ := pr1 hs
  replace hf : pInst t [d] = some r := hf
  cases hf
  obtain ⟨u, w', rfl, r1, r2⟩ := vals2 rv
  cases r2
  exact inst_run I h1 r1 fun tk => ⟨.bl _, H, I.tok tk, rfl, q _ H (.refl H) (.val (.bl _))⟩
theorem i_inst {a : Expr} {ca : E} {t : Ty} {y : Str} {p p2 pos : Pos} (hg : Gl X "isinstance") (hm : X.mg "isinstance" = Option.none) (hg2 : Gl X y) (hm2 : X.mg y = Option.none) (hv : bootBuiltins y = some (.type (tyN t))) (ha : IE X fn a ca)
    (hn : y ≠ "__name__" := by decide) (hdb : (y == ("__debug__" : Str)) = false := by decide)
    (h1 : starEach [a, .Name y p2] X.env = (false, eval a X.env) :: starEach [.Name y p2] X.env := by rfl) (h2 : starEach [.Name y p2] X.env = (false, eval (.Name y p2) X.env) :: starEach [] X.env := by rfl)
    (hpl : (backTo pos (starEach [.Name y p2] X.env)).any (·.1) = false := by rfl) :
    IE X fn (.Call (.Name "isinstance" p) [a, .Name y p2] [] pos) (.prim (.inst t) (.cons ca .nil)) :=
  .mk <| (pe_callB (vr_inst t) hg hm PyProof.Rows.boot_isinstance (pa_cons ha.v (pa_cons (pe_bltn hg2 hm2 hv (v := .ty (tyN t)) rfl hn hdb) pa_nil h2) h1) (by decide) (by decide) h1 hpl).imp fun σ H Q ⟨W, ρ, r, hR, he, q⟩ => by
    simp only [evE, evEs, Option.bind_eq_some_iff, Option.map_eq_some_iff] at he
    obtain ⟨rs, ⟨r1, e1, rs', e3, rfl⟩, e4⟩ := he
    cases e3
    exact ⟨W, ρ, r1, hR, e1, fun v1 H1 s1 f1 => ⟨v1, rfl, args_vr hR s1 (.cons f1 .nil) e4 q⟩⟩
theorem reps_bools {K : PySem.W.Frag} {W : Addr → Prop} {H : Hp} : ∀ {ds : List D} {xs : List V} {bs : List Bool}, Reps K W H ds xs → bools? ds = some bs → xs = bs.map V.bl
  | _, _, bs, .nil, e => by simp [bools?] at e; subst e; rfl
  | _, _, bs, .cons h t, e => by
    cases h with
    | bl i =>
      simp only [bools?, Option.map_eq_some_iff] at e
      obtain ⟨ms, e1, rfl⟩ := e
      rw [reps_bools t e1]; rfl
    | _ => simp [bools?] at e
theorem vals_bools : ∀ {bs : List Bool} {us : List Value}, Vals (bs.map V.bl) us → us = bs.map Value.bool
  | [], us, r => by cases r; rfl
  | b :: bs, us, r => by
    cases r with
    | cons h t => cases h; rw [vals_bools t]; rfl
theorem all_range (bs : List Bool) : ((List.range bs.length).all fun i => bs.getD i true) = bs.all id := by
  induction bs with
  | nil => rfl
  | cons b r ih =>
    rw [List.length_cons, List.range_succ_eq_map, List.all_cons, List.all_map, List.all_cons]
    simp only [Function.comp_def, List.getD_cons_succ, List.getD_cons_zero]
    rw [ih]; rfl
theorem vr_all (hc : X.calm = true) : CallR X (.builtin "all") (VR X.K (primD .all)) := by
  rintro pins s σ H xs us Q I rv ⟨W, ds, r, wf, hs, hf, q⟩
  replace hf : pAll ds = some r := hf
  unfold pAll at hf
  split at hf
  · rename_i l
    rw [Option.bind_eq_some_iff] at hf
    obtain ⟨bs, e1, hf⟩ := hf
    cases hf
    cases hs with
    | cons h1 t =>
      cases t
      obtain ⟨p, ys, rfl, hp, rp⟩ := h1.lst
      have ey := reps_bools rp e1
      subst ey
      obtain ⟨u, rfl, ru⟩ := vals1 rv
      cases ru
      obtain ⟨its, rv', pl, hz⟩ := I.list hp
      have ei := vals_bools rv'
      subst ei
      obtain ⟨o, n, ho, hcl, hdi, hda⟩ := id pl
      have hne : p ≠ s.heap.objs.size := Nat.ne_of_lt (Heap.lt_size ho)
      refine call_all_walk (wpAny_pyIter_list pl.isList ?_)
      refine ⟨s.heap.objs.size, _, _, _, _, _, fun i => bs.getD i true, rfl, Walks.list (A := X.A.in1) (I.ok.hd hc) s.heap.objs.size p hne (bs.map Value.bool).toArray, ⟨⟨_, Heap.get?_push_size _ rfl, rfl, rfl⟩, ⟨o, Heap.get?_push_of_some _ ho, hcl, n, hda⟩⟩, ?_, fun h' tk hk => ?_⟩
      · intro i v s' Q' E' hv hQ
        have hv : (bs.map Value.bool).toArray[i]? = some v := hv
        rw [List.getElem?_toArray, List.getElem?_map, Option.map_eq_some_iff] at hv
        obtain ⟨b, e2, rfl⟩ := hv
        have e3 : bs.getD i true = b := by rw [List.getD_eq_getElem?_getD, e2]; rfl
        have hQ : Q' (bs.getD i true) s' := hQ
        rw [e3] at hQ
        exact wpAny_truthy_bool hQ
      · rw [List.size_toArray, List.length_map, all_range]
        refine ⟨.bl _, H, I.kept (t' := tk) (fun b o' e => ?_), rfl, q _ H (.refl H) (.val (.bl _))⟩
        exact hk b o' (by simpa using Nat.ne_of_lt (Heap.lt_size e)) (Heap.get?_push_of_some _ e)
  · cases hf
theorem cut_take (xs : List V) (k : Int) (hk : 0 ≤ k) : cutV xs Option.none (some k) = xs.take k.toNat := by
  obtain ⟨n, rfl⟩ := Int.eq_ofNat_of_zero_le hk
  unfold cutV
  rw [HT.sIx_none, HT.sIx_nat, List.drop_zero, Nat.sub_zero, Int.toNat_natCast]
  rcases Nat.le_total n xs.length with h | h
  · rw [Nat.min_eq_left h]
  · rw [Nat.min_eq_right h, List.take_of_length_le (Nat.le_refl _), List.take_of_length_le h]
theorem i_cutTo {a b : Expr} {ca cb : E} {p pos : Pos} (ha : IE X fn a ca) (hb : IE X fn b cb) : IE X fn (.Subscript a (.Slice Option.none (some b) Option.none p) pos) (.prim .cutTo (.cons ca (.cons cb .nil))) :=
  .mk <| (pe_slice sl_list ha.v po_none (po_some hb.v)).imp fun σ H Q ⟨W, ρ, r, hR, he, q⟩ => by
    simp only [evE, evEs, Option.bind_eq_some_iff, Option.map_eq_some_iff] at he
    obtain ⟨rs, ⟨r1, e1, rs', ⟨r2, e2, rs'', e3, rfl⟩, rfl⟩, e4⟩ := he
    cases e3
    refine ⟨W, ρ, r1, hR, e1, fun v1 H1 s1 f1 => ⟨W, ρ, r2, hR.same s1, e2, fun v2 H2 s2 f2 => ?_⟩⟩
    replace e4 : pCutTo [seeD r1, seeD r2] = some r := e4
    unfold pCutTo at e4
    split at e4
    · rename_i l k z
      have h1 := (f1.same s2).sees
      have h2 := f2.sees
      injection z with z1 z2
      injection z2 with z2 _
      rw [z1] at h1
      rw [z2] at h2
      split at e4
      · rename_i hk
        cases e4
        obtain ⟨p, xs, rfl, hp, rp⟩ := h1.lst
        cases h2.int
        refine ⟨k, rfl, p, xs, rfl, hp, fun p' hp' => ?_⟩
        rw [cut_take xs k hk]
        have s12 := s1.trans s2
        exact q _ _ (s12.trans (same_upd hp' _)) ((res_new hp' (rp.take _)).back s12)
      · cases e4
    · cases e4
theorem vis_free {scope : Scope} {env : PySem.Env} {y : Str} (h : scope.names.lookup y = some .free) : Vis (relabel scope env) y := by
  unfold Vis relabel
  have key : ∀ (names : List (Str × NameKind)), names.lookup y = some .free →
      (names.map fun (z : Str × NameKind) => match z with | (n, k) => if (k == NameKind.free && env.scope.kind == .function && env.kindOf n == some .cell) = true then (n, NameKind.cell) else (n, k)).lookup y = some .cell ∨
      (names.map fun (z : Str × NameKind) => match z with | (n, k) => if (k == NameKind.free && env.scope.kind == .function && env.kindOf n == some .cell) = true then (n, NameKind.cell) else (n, k)).lookup y = some .free := by
    intro names
    induction names with
    | nil => intro h; cases h
    | cons z r ih =>
      obtain ⟨n, j⟩ := z
      intro h
      rw [List.lookup_cons] at h
      rw [List.map_cons, List.lookup_cons]
      by_cases hc : (j == NameKind.free && env.scope.kind == .function && env.kindOf n == some .cell) = true
      · simp only [hc, if_true]
        cases e : y == n with
        | true => exact .inl rfl
        | false => rw [e] at h; exact ih h
      · simp only [hc, Bool.false_eq_true, if_false]
        cases e : y == n with
        | true => rw [e] at h; exact .inr h
        | false => rw [e] at h; exact ih h
  exact .inr (key scope.names h)
theorem vis_loc {scope : Scope} {env : PySem.Env} {y : Str} (h : scope.names.lookup y = some .local) : Vis (relabel scope env) y := .inl (lookup_relabel_local h)
theorem gl_comp {scope : Scope} {env : PySem.Env} {y : Str} (h : scope.names.lookup y = some .globalImplicit) : (relabel scope env).names.lookup y = some .globalImplicit := by
  unfold relabel
  have key : ∀ (names : List (Str × NameKind)), names.lookup y = some .globalImplicit →
      (names.map fun (z : Str × NameKind) => match z with | (n, k) => if (k == NameKind.free && env.scope.kind == .function && env.kindOf n == some .cell) = true then (n, NameKind.cell) else (n, k)).lookup y = some .globalImplicit := by
    intro names
    induction names with
    | nil => intro h; cases h
    | cons z r ih =>
      obtain ⟨n, j⟩ := z
      intro h
      rw [List.lookup_cons] at h
      rw [List.map_cons, List.lookup_cons]
      by_cases hc : (j == NameKind.free && env.scope.kind == .function && env.kindOf n == some .cell) = true
      · simp only [hc, if_true]
        cases e : y == n with
        | true =>
          rw [e] at h
          have h : j = .globalImplicit := Option.some.inj h
          rw [h] at hc
          simp at hc
        | false => rw [e] at h; exact ih h
      · simp only [hc, Bool.false_eq_true, if_false]
        cases e : y == n with
        | true => rw [e] at h; exact h
        | false => rw [e] at h; exact ih h
  exact key scope.names h
noncomputable def compScB (sc : Scope) (N : List Str) (scope : Scope) (x : Str) : Bool :=
  decide (scope.kind = .function) && (decide (scope.names.lookup x = some .local) || decide (scope.names.lookup x = some .cell)) && scope.names.all (fun y => !decide (y.2 = .local) || decide (scope.names.lookup y.1 = some .local)) &&
  decide (scope.names.filter (fun y => y.2 == .cell) = if scope.names.lookup x = some .cell then [(x, .cell)] else []) &&
  scope.names.all (fun y => !decide (y.2 = .free) || (decide (sc.names.lookup y.1 = some .cell) || decide (sc.names.lookup y.1 = some .free))) && N.all (fun y => !decide (scope.names.lookup y = some .local) || decide (y = x)) &&
  decide (scope.names.lookup ("" : Str) = Option.none) && decide ((x :: hide x N).Nodup)
theorem compSc {scope sc : Scope} {N : List Str} {x : Str} (hs : X.env.scope = sc) (hN : X.N = N) (h : compScB sc N scope x = true) : CompSc X scope x := by
  subst hs hN
  simp only [compScB, Bool.and_eq_true, decide_eq_true_eq, List.all_eq_true, Bool.or_eq_true, Bool.not_eq_true', decide_eq_false_iff_not] at h
  obtain ⟨⟨⟨⟨⟨⟨⟨h1, h2⟩, h3⟩, h4⟩, h5⟩, h6⟩, h7⟩, h8⟩ := h
  exact ⟨h1, h2, fun y hy e => (h3 y hy).resolve_left fun z => z e, h4, fun y hy e => (h5 y hy).resolve_left fun z => z e, fun y hy e => (h6 y hy).resolve_left fun z => z e, h7, h8⟩
end
end L2.LW
set_option linter.all false
set_option maxHeartbeats 4000000
namespace L2.LW
open PySem PySem.Spec PyProof.Rows
section
variable {Pg : Program} {w : World} {K : PySem.W.Frag} {mg : Str → Option Value} {base : Heap} {f : Addr} {fd : FuncData} {ps : List Str} {P : Nat → Option Fn} {fuel i n k : Nat}
theorem fn_never {io : List Nat} (h : ∀ ds, callA P fuel n i ds = Option.none) : FnOk Pg w K mg base CX0 k f fd ps (spA K (callA P fuel n) i io) := by
  have no : ∀ vs H Q E, ¬ spA K (callA P fuel n) i io vs H Q E := fun vs H Q E ⟨W, ds, r, outs, _, _, e, _⟩ => by
    rw [h ds] at e; cases e
  exact ⟨fun vs H Q E z => absurd z (no vs H Q E), fun A outer s H args us vs Q E _ _ _ _ z => absurd z (no vs H Q E)⟩
theorem fn_zero {io : List Nat} : FnOk Pg w K mg base CX0 k f fd ps (spA K (callA P fuel 0) i io) := fn_never fun _ => rfl
theorem fn_none {io : List Nat} (h : P i = Option.none) : FnOk Pg w K mg base CX0 k f fd ps (spA K (callA P fuel (n + 1)) i io) := fn_never fun ds => by rw [callA, h]; rfl
theorem law_sp {H : Hp} {a : Addr} {ns : List Int} {E : XK} (h : callN P fuel n i [.lst (ns.map D.int)] = some (.val (.bl true))) (hS : SqL K H a (ns.map V.int)) : spA K (callA P fuel n) i [] [.ref a] H (fun v _ => v = .bl true) E := by
  refine ⟨fun _ => False, [.lst (ns.map D.int)], .val (.bl true), [], fun _ z => z.elim, (Reps.cons (.lst ?_ (.ints ns)) .nil).get', prj_some h, fun v H' _ _ r => ?_⟩
  · rcases hS with hS | hS
    · exact .inl ⟨fun z => z, hS⟩
    · exact .inr hS
  · cases r with
    | val r => cases r; rfl
end
end L2.LW
set_option linter.all false
set_option maxHeartbeats 4000000
namespace L2.LW
open PySem PySem.Spec PyProof.Rows
section
variable {X : Cx} {fn : Nat → List D → Option SV} {fa : Nat → List D → Option Ans} {fuel : Nat} {a b c e : Expr} {ca cb cc ce : E} {es : List Expr} {cs : Es} {pos p : Pos} {x : Str} {st : Stmt} {sts : List Stmt} {s : S} {ss s1 s2 : Ss}
end
end L2.LW
set_option linter.all false
set_option maxHeartbeats 4000000
namespace L2.LW
open PySem PySem.Spec PyProof.Rows
inductive ArgOk (K : PySem.W.Frag) (ρ : LW.Env) (σ : St) (H H' : Hp) : AV → V → Prop where
  | e {d : D} {v : V} (h : ∀ W, Rep K W H' d v) : ArgOk K ρ σ H H' (.e d) v
  | l {ds : List D} {a : Addr} {xs : List V} (e : SqL K H' a xs ∧ Rd H' a (.lst xs) ∨ KLst K a xs) (r : ∀ W, Reps K W H' ds xs) : ArgOk K ρ σ H H' (.l ds) (.ref a)
  | s {i : Nat} {x : SV} {d : D} {a : Addr} (h : ρ[i]? = some (some x)) (c : x.cell = some d) (k : isDct d = true) (e : σ[i]? = some (some (.ref a))) : ArgOk K ρ σ H H' (.s i d) (.ref a)
  | n {t : Bool} {a : Addr} {o : HO} (h : H a = Option.none) (e : H' a = some o) (r : ∀ W, ORep K W H' (.dct t [] []) o) : ArgOk K ρ σ H H' (.n t) (.ref a)
theorem ArgOk.same {K : PySem.W.Frag} {ρ : LW.Env} {σ : St} {H H' H'' : Hp} {x : AV} {v : V} (h : ArgOk K ρ σ H H' x v) (s : Same H' H'') : ArgOk K ρ σ H H'' x v := by
  cases h with
  | e h => exact .e fun W => (h W).ext (.same s)
  | l e r =>
    refine .l ?_ fun W => (r W).ext (.same s)
    rcases e with ⟨e1, e2⟩ | e
    · refine .inl ⟨s.seq e1, ?_⟩
      rcases e2 with e2 | ⟨o, e2⟩
      · exact .inl (s _ _ e2)
      · exact .inr ⟨o, s _ _ e2⟩
    · exact .inr e
  | s h c k e => exact .s h c k e
  | n h e r => exact .n h (s _ _ e) fun W => (r W).ext (.same s)
theorem ArgOk.back {K : PySem.W.Frag} {ρ : LW.Env} {σ : St} {H H' H'' : Hp} {x : AV} {v : V} (h : ArgOk K ρ σ H' H'' x v) (s : Same H H') : ArgOk K ρ σ H H'' x v := by
  cases h with
  | e h => exact .e h
  | l e r => exact .l e r
  | s h c k e => exact .s h c k e
  | n h e r => exact .n (s.free h) e r
section
variable {X : Cx} {fn : Nat → List D → Option SV} {fa : Nat → List D → Option Ans} {fuel : Nat} {a b c e : Expr} {ca cb cc ce : E} {es : List Expr} {cs : Es} {ma : MA} {m : M} {pos p : Pos} {x : Str} {st : Stmt} {sts sts' : List Stmt} {s : S} {ss s1 s2 : Ss}
end
inductive OutsX (K : PySem.W.Frag) (W : Addr → Prop) (H : Hp) : List AV → List V → List D → Prop where
  | nil : OutsX K W H [] [] []
  | e {d : D} {v : V} {xs : List AV} {vs : List V} {os : List D} (t : OutsX K W H xs vs os) : OutsX K W H (.e d :: xs) (v :: vs) os
  | l {d : List D} {v : V} {xs : List AV} {vs : List V} {os : List D} (t : OutsX K W H xs vs os) : OutsX K W H (.l d :: xs) (v :: vs) os
  | s {i : Nat} {d : D} {a : Addr} {o : HO} {d' : D} {xs : List AV} {vs : List V} {os : List D} (e : H a = some o) (r : ORep K W H d' o) (t : OutsX K W H xs vs os) : OutsX K W H (.s i d :: xs) (.ref a :: vs) (d' :: os)
  | n {b : Bool} {v : V} {d' : D} {xs : List AV} {vs : List V} {os : List D} (t : OutsX K W H xs vs os) : OutsX K W H (.n b :: xs) (v :: vs) (d' :: os)
section
variable {X : Cx} {fn : Nat → List D → Option SV} {fa : Nat → List D → Option Ans} {fuel : Nat} {a b c e : Expr} {ca cb cc ce : E} {es : List Expr} {cs : Es} {ma : MA} {m : M} {pos p : Pos} {x : Str} {st : Stmt} {sts sts' : List Stmt} {s : S} {ss s1 s2 : Ss}
theorem OutsX.plain {K : PySem.W.Frag} {W W' : Addr → Prop} {H : Hp} {xs : List AV} {vs : List V} {os : List D} (h : OutsX K W H xs vs os) (p : os.all plainO = true) : OutsX K W' H xs vs os := by
  induction h with
  | nil => exact .nil
  | e _ ih => exact .e (ih p)
  | l _ ih => exact .l (ih p)
  | s e r _ ih =>
    simp only [List.all_cons, Bool.and_eq_true] at p
    exact .s e (r.plain p.1) (ih p.2)
  | n _ ih =>
    simp only [List.all_cons, Bool.and_eq_true] at p
    exact .n (ih p.2)
theorem Res.fine {K : PySem.W.Frag} {W W' : Addr → Prop} {H H' : Hp} {r : SV} {v : V} (h : Res K W' H H' r v) (p : r.fine = true) : Res K W H H' r v := by
  cases h with
  | val h => exact .val (h.plain p)
  | new h e r => exact .new h e (r.plain p)
  | see h e r => cases p
theorem SPost.wf' {K : PySem.W.Frag} {W W' : Addr → Prop} {ρ ρ' : LW.Env} {σ σ' : St} {H H' : Hp} (p : SPost K W ρ σ H W' ρ' σ' H') : Wf W' H' := p.r.wf
end
end L2.LW
set_option linter.all false
set_option maxHeartbeats 4000000
namespace L2.LW
open PySem PySem.Spec PyProof.Rows
section
variable {X : Cx} {fn : Nat → List D → Option SV} {fa : Nat → List D → Option Ans} {fuel : Nat} {st : Stmt} {s : S}
theorem foldl_max_is : ∀ (r : List Int) (n : Int), (∀ x ∈ n :: r, x ≤ r.foldl max n) ∧ r.foldl max n ∈ n :: r
  | [], n => by simp
  | x :: r, n => by
    obtain ⟨h1, h2⟩ := foldl_max_is r (max n x)
    rw [List.foldl_cons]
    refine ⟨fun y hy => ?_, ?_⟩
    · have h0 := h1 (max n x) List.mem_cons_self
      rcases List.mem_cons.mp hy with rfl | hy
      · omega
      · rcases List.mem_cons.mp hy with rfl | hy
        · omega
        · exact h1 y (List.mem_cons_of_mem _ hy)
    · rcases List.mem_cons.mp h2 with e | e
      · rw [e]
        rcases Int.le_total n x with q | q
        · rw [Int.max_eq_right q]; simp
        · rw [Int.max_eq_left q]; simp
      · exact List.mem_cons_of_mem _ (List.mem_cons_of_mem _ e)
theorem items_pairs {its : List Value} {ns : List Int} (hi : IntsAre its ns) : ∃ ps : List (Int × Tok), its = ps.map (fun p => Value.int p.1 p.2) ∧ ns = ps.map (·.1) := by
  induction hi with
  | nil => exact ⟨[], rfl, rfl⟩
  | cons n t h ih =>
    obtain ⟨ps, e1, e2⟩ := ih
    exact ⟨(n, t) :: ps, by rw [e1]; rfl, by rw [e2]; rfl⟩
theorem items_num {its : List Value} {ns : List Int} (hi : IntsAre its ns) : ∃ xs : Array (Int × Tok), its.toArray = intItems xs ∧ xs.size = ns.length ∧ ∀ i, (h : i < ns.length) → numAt xs i = ns[i] := by
  obtain ⟨ps, rfl, rfl⟩ := items_pairs hi
  refine ⟨ps.toArray, by simp [intItems], by simp, fun i h => ?_⟩
  have h' : i < ps.length := by simpa using h
  simp [numAt, h']
theorem vr_maxL (hc : X.calm = true) : CallR X (.builtin "max") (VR X.K (primD .maxL)) := by
  rintro pins s σ H xs us Q I rv ⟨W, ds, r, wf, hs, hf, q⟩
  replace hf : pMaxL ds = some r := hf
  unfold pMaxL at hf
  split at hf
  · rename_i l
    rw [Option.bind_eq_some_iff] at hf
    obtain ⟨ns, e1, hf⟩ := hf
    cases ns with
    | nil => cases hf
    | cons n ns =>
      cases hf
      cases hs with
      | cons h1 t =>
        cases t
        obtain ⟨p, ys, rfl, hp, rp⟩ := h1.lst
        have ey := rp.ofInts e1
        subst ey
        obtain ⟨u, rfl, ru⟩ := vals1 rv
        cases ru
        obtain ⟨its, rv', pl, hz⟩ := I.list hp
        obtain ⟨xs, x1, x2, x3⟩ := items_num (intsAre_of rv')
        have hpl := pl.isList
        rw [x1] at hpl
        refine max_intList (I.ok.hd hc) hpl (by rw [x2]; simp) fun v h' tk hv hk => ?_
        obtain ⟨t, rfl⟩ := intItems_at hv
        obtain ⟨g1, g2⟩ := argBest_gt (numAt xs) (xs.size - 1)
        have hlen : xs.size - 1 = ns.length := by rw [x2]; simp
        rw [hlen] at g1 g2 ⊢
        generalize argBest (fun i j => decide (numAt xs i > numAt xs j)) ns.length = b at g1 g2 ⊢
        have eb : numAt xs b = ns.foldl max n := by
          obtain ⟨m1, m2⟩ := foldl_max_is ns n
          have hb : b < (n :: ns).length := by simp; omega
          obtain ⟨j, hj, ej⟩ := List.getElem_of_mem m2
          have q1 := m1 _ (List.getElem_mem hb)
          have q2 := g2 j (by simp at hj; omega)
          rw [x3 j hj, ej] at q2
          rw [x3 b hb] at q2 ⊢
          omega
        rw [eb]
        exact ⟨.int _, H, I.kept (t' := tk) hk, ⟨_, rfl⟩, q _ H (.refl H) (.val (.int _))⟩
  · cases hf
theorem vr_intOf : CallR X (.type "int") (VR X.K (primD .intOf)) := by
  rintro pins s σ H xs us Q I rv ⟨W, ds, r, wf, hs, hf, q⟩
  replace hf : pIntOf ds = some r := hf
  unfold pIntOf at hf
  split at hf
  · cases hf
    cases hs with
    | cons h1 t =>
      cases t
      cases h1.int
      exact call_int1 pins s σ H _ us Q I rv (.inl ⟨_, rfl, q _ H (.refl H) (.val (.int _))⟩)
  · cases hf
    cases hs with
    | cons h1 t =>
      cases t
      cases h1.bl
      exact call_int1 pins s σ H _ us Q I rv (.inr ⟨_, rfl, q _ H (.refl H) (.val (.int _))⟩)
  · cases hf
end
end L2.LW
set_option linter.all false
set_option maxHeartbeats 4000000
namespace L2.LW
open PySem PySem.W PyProof.Rows
section
variable {n : Nat} {r : Nat → Int} {cmp : Nat → Nat → (Bool → Shared → Prop) → Shared → Prop} {I : Shared → Prop}
noncomputable def kk (r : Nat → Int) (p : Array Nat) (i : Nat) : Int := r (p.getD i 0)
structure Pm (n : Nat) (r : Nat → Int) (p : Array Nat) : Prop where
  perm : p.Perm (List.range n).toArray
  size : p.size = n
  lt : ∀ i, i < n → p.getD i 0 < n
  inj : ∀ i j, i < n → j < n → i ≠ j → kk r p i ≠ kk r p j
theorem Pm.of {p : Array Nat} (hr : ∀ i j, i < n → j < n → i ≠ j → r i ≠ r j) (h : p.Perm (List.range n).toArray) : Pm n r p := by
  have hs : p.size = n := by have := h.size_eq; simpa using this
  have hl : p.toList.Perm (List.range n) := Array.perm_iff_toList_perm.mp h
  have hlt : ∀ i, i < n → p.getD i 0 < n := fun i hi => by
    have hi' : i < p.size := by omega
    have : p[i] ∈ p.toList := by simp
    have := hl.mem_iff.mp this
    rw [List.mem_range] at this
    simpa [Array.getD, hi'] using this
  have hnd : p.toList.Nodup := hl.nodup_iff.mpr List.nodup_range
  refine ⟨h, hs, hlt, fun i j hi hj ne => hr _ _ (hlt i hi) (hlt j hj) fun e => ne ?_⟩
  have hi' : i < p.size := by omega
  have hj' : j < p.size := by omega
  simp only [Array.getD, hi', hj', dif_pos] at e
  have e' : p.toList[i]'(by simpa using hi') = p.toList[j]'(by simpa using hj') := by simpa using e
  exact (List.getElem_inj hnd).mp e'
noncomputable def Up (r : Nat → Int) (p : Array Nat) (k : Nat) : Prop := ∀ i j, i < j → j < k → kk r p i < kk r p j
noncomputable def Dn (r : Nat → Int) (p : Array Nat) (k : Nat) : Prop := ∀ i j, i < j → j < k → kk r p j < kk r p i
theorem Up.one {p : Array Nat} {k : Nat} (h : k ≤ 1) : Up r p k := fun i j h1 h2 => by omega
theorem Dn.one {p : Array Nat} {k : Nat} (h : k ≤ 1) : Dn r p k := fun i j h1 h2 => by omega
theorem Up.next {p : Array Nat} {k : Nat} (h : Up r p k) (hk : 1 ≤ k) (e : kk r p (k - 1) < kk r p k) : Up r p (k + 1) := fun i j h1 h2 => by
  by_cases hj : j = k
  · subst hj
    by_cases hi : i = j - 1
    · rw [hi]; exact e
    · exact Int.lt_trans (h i (j - 1) (by omega) (by omega)) e
  · exact h i j h1 (by omega)
theorem Dn.next {p : Array Nat} {k : Nat} (h : Dn r p k) (hk : 1 ≤ k) (e : kk r p k < kk r p (k - 1)) : Dn r p (k + 1) := fun i j h1 h2 => by
  by_cases hj : j = k
  · subst hj
    by_cases hi : i = j - 1
    · rw [hi]; exact e
    · exact Int.lt_trans e (h i (j - 1) (by omega) (by omega))
  · exact h i j h1 (by omega)
variable (hc : ∀ i j C s, i < n → j < n → I s → (∀ s', I s' → C (decide (r i < r j)) s') → cmp i j C s)
include hc
omit hc in
omit hc in
omit hc in
omit hc in
end
end L2.LW
set_option linter.all false
set_option maxHeartbeats 4000000
namespace L2.LW
open PySem PySem.Spec PySem.W PyProof.Rows
section
variable {prog : Program} {w : World} {A : Around} {E : Value → Shared → Prop} {s : Shared}
end
section
variable {X : Cx} {pins : List (Addr × Obj)} {σ : St} {H : Hp} {s : Shared} {W : Addr → Prop}
end
end L2.LW
set_option linter.all false
set_option maxHeartbeats 4000000
namespace L2.LW
open PySem PySem.Spec PySem.W PyProof.Rows
section
variable {X : Cx} {fn : Nat → List D → Option SV} {fa : Nat → List D → Option Ans} {fuel : Nat} {e : Expr} {pos : Pos} {sts : List Stmt} {ss : Ss}
end
end L2.LW
set_option linter.all false
set_option maxHeartbeats 4000000
namespace L2.LW
open PySem PySem.Spec PySem.W PySem.Calls PyProof.Rows
noncomputable def RawD (h : Heap) (d : Addr) (tb : Array DictEntry) (ep : Nat) : Prop := ∃ o, h.get? d = some o ∧ o.ExactDict ∧ o.data = .dict tb ep
section
variable {prog : Program} {w : World} {A : Around} {E : Value → Shared → Prop} {s : Shared} {it d : Addr} {k ep : Nat} {tb : Array DictEntry} {Q : Option Value → Shared → Prop}
end
theorem RawD.at {h h2 : Heap} {d : Addr} {tb : Array DictEntry} {ep : Nat} (x : RawD h d tb ep) (e : ∀ o, h.get? d = some o → h2.get? d = some o) : RawD h2 d tb ep := let ⟨o, ho, r⟩ := x; ⟨o, e _ ho, r⟩
theorem RawD.lt {h : Heap} {d : Addr} {tb : Array DictEntry} {ep : Nat} (x : RawD h d tb ep) : d < h.objs.size := let ⟨_, ho, _⟩ := x; Heap.lt_size ho
section
variable {prog : Program} {w : World}
end
end L2.LW
set_option linter.all false
set_option maxHeartbeats 4000000
namespace L2.LW
open PySem PySem.Spec PySem.W PySem.Calls PyProof.Rows
section
variable {X : Cx}
end
end L2.LW
set_option linter.all false
set_option maxHeartbeats 4000000
namespace L2.LW
open PySem PySem.Spec PySem.W PySem.Calls PyProof.Rows
section
variable {X : Cx} {fn : Nat → List D → Option SV} {fa : Nat → List D → Option Ans} {fuel : Nat} {a b c e : Expr} {ca cb cc ce : E} {pos p : Pos} {x : Str}
end
end L2.LW
set_option linter.all false
set_option maxHeartbeats 4000000
namespace L2.LW
open PySem PySem.Spec PySem.W PySem.Calls PyProof.Rows
noncomputable def hcell (i : Nat) : Int := reduceHash (Builtin.Tuple.tupleHashOf [hashInt ((i / 8 : Nat) : Int), hashInt ((i % 8 : Nat) : Int)])
section
variable {prog : Program} {w : World} {K : Type} [DecidableEq K] {knd : HeapKind prog w K} {A : Around} {E : Value → Shared → Prop} {s : Shared}
end
section
variable {P : Program} {w : World} {A : Around} {E : Value → Shared → Prop} {s : Shared}
end
end L2.LW
set_option linter.all false
set_option maxHeartbeats 4000000
namespace L2.LW
open PySem PySem.Spec PySem.W PySem.Calls PyProof.Rows
section
variable {X : Cx}
end
section
variable {X : Cx} {fn : Nat → List D → Option SV} {fa : Nat → List D → Option Ans} {fuel : Nat} {pos p p2 : Pos} {x y : Str}
end
end L2.LW
set_option linter.all false
set_option maxHeartbeats 4000000
namespace L2.LW
open PySem PySem.Spec PySem.W PySem.Calls PyProof.Rows
section
variable {prog : Program} {w : World} {A : Around} {E : Value → Shared → Prop}
end
section
variable {X : Cx} {pos : Pos}
end
section
variable {X : Cx} {fa : Nat → List D → Option Ans} {fuel : Nat} {e : Expr} {ce : E} {pos : Pos} {x y z : Str}
end
end L2.LW
set_option linter.all false
set_option maxHeartbeats 4000000
namespace L2.LW
open PySem PySem.Spec PySem.W PySem.Calls PyProof.Rows
section
variable {X : Cx} {fn : Nat → List D → Option SV}
theorem vr_eqS : OpR X (compareOp .Eq) (VR2 X.K (primD .eqS)) := by
  rintro pins s σ H x y v u Q I rx ry ⟨W, ds, r, wf, hs, hf, q⟩
  obtain ⟨d, e, rfl, h1, h2⟩ := pr2 hs
  replace hf : pEqS [d, e] = some r := hf
  unfold pEqS at hf
  split at hf
  case h_2 => cases hf
  rename_i a b z
  cases z
  cases hf
  cases h1.str; cases h2.str
  have e : decide (V.str a = V.str b) = decide (a = b) := by simp
  exact op_eq pins s σ H _ _ v u Q I rx ry ⟨rfl, by rw [e]; exact q _ H (.refl H) (.val (.bl _))⟩
theorem vr_neS : OpR X (compareOp .NotEq) (VR2 X.K (primD .neS)) := by
  rintro pins s σ H x y v u Q I rx ry ⟨W, ds, r, wf, hs, hf, q⟩
  obtain ⟨d, e, rfl, h1, h2⟩ := pr2 hs
  replace hf : pNeS [d, e] = some r := hf
  unfold pNeS at hf
  split at hf
  case h_2 => cases hf
  rename_i a b z
  cases z
  cases hf
  cases h1.str; cases h2.str
  have e : decide (V.str a = V.str b) = decide (a = b) := by simp
  exact op_ne pins s σ H _ _ v u Q I rx ry ⟨rfl, by rw [e]; exact q _ H (.refl H) (.val (.bl _))⟩
end
end L2.LW
set_option linter.all false
set_option maxHeartbeats 4000000
namespace L2.LW
open PySem PySem.Spec PySem.W PySem.Calls PyProof.Rows
section
variable {P : Program} {w : World} {l : List PySem.Env} {H H' : Hp} {g h h' B : Heap} {e : Addr} {c t : Value}
end
section
variable {X : Cx} {pins : List (Addr × Obj)} {σ : St} {H : Hp} {s s' : Shared}
end
section
variable {P : Program} {w : World} {K : PySem.W.Frag} {mg : Str → Option Value} {base : Heap} {N : List Str} {qual : Str} {scope : Scope} {f : Addr} {cd : Value} {A : Around} {outer : List PySem.Env} {s : Shared} {H : Hp} {E : XK}
end
end L2.LW
set_option linter.all false
set_option maxHeartbeats 4000000
namespace L2.LW
open PySem PySem.Spec PySem.W PySem.Calls PyProof.Rows
section
variable {X : Cx} {E : XK} {x : Str} {C : Addr} {e : Expr} {te : TE} {np cpos pos : Pos}
end
end L2.LW
set_option linter.all false
set_option maxHeartbeats 4000000
namespace L2.LW
open PySem PySem.Spec PySem.W PySem.Calls PyProof.Rows
noncomputable def FlXOk (K : PySem.W.Frag) (cl : Nat → Value) (E : XK) (W : Addr → Prop) (ρ : LW.Env) (σ : St) (W' : Addr → Prop) (ρ' : LW.Env) (σ' : St) (H' : Hp) (D : Ends) : FlX → Prop
  | .fl f => FlOk K W ρ σ W' ρ' σ' H' D f
  | .ex c => E (cl c) Option.none H'
theorem FlXOk.back {K : PySem.W.Frag} {cl : Nat → Value} {E : XK} {W W1 W2 : Addr → Prop} {ρ ρ1 ρ2 : LW.Env} {σ σ1 σ2 : St} {H H1 H2 : Hp} {D : Ends} {fl : FlX} (p : SPost K W ρ σ H W1 ρ1 σ1 H1) (h : FlXOk K cl E W ρ σ W2 ρ2 σ2 H2 D fl) : FlXOk K cl E W1 ρ1 σ1 W2 ρ2 σ2 H2 D fl := by
  cases fl with
  | fl f => exact FlOk.back (ρ2 := ρ2) p h
  | ex c => exact h
section
variable {X : Cx} {cl : Nat → Value} {E : XK} {fa : Nat → List D → Option Ans} {fuel : Nat} {st : Stmt} {sts sts' : List Stmt} {s : S} {t : T} {ts t1 t2 : Ts} {e c : Expr} {es : List Expr} {cs : Es} {cc : LW.E} {x y : Str} {p pos : Pos}
noncomputable def tCx (K : PySem.W.Frag) (cl : Nat → Value) (E : XK) (fa : Nat → List D → Option Ans) (i : Nat) (cs : Es) : TE := fun σ H Q => ∃ W ρ a, R K W ρ σ H ∧ ansX fa i cs ρ = some a ∧ match a with
  | .ok r [] => ∀ v H', Same H H' → Res K W H H' r v → Q v H'
  | .ok _ _ => False
  | .ex c => ∀ H', Same H H' → E (cl c) Option.none H'
section
variable {i : Nat} (hp : PE X e (tCx X.K cl E fa i cs))
include hp
end
end
end L2.LW
set_option linter.all false
set_option maxHeartbeats 4000000
namespace L2.LW
open PySem PySem.Spec PySem.W PySem.Calls PyProof.Rows
section
variable {K : PySem.W.Frag} {x t c : Value} {H : Heap → Prop}
variable {prog : Program} {w : World} {A : Around} {E : Value → Shared → Prop} {s : Shared} {Q : Value → Shared → Prop}
end
section
variable {X : Cx} {pins : List (Addr × Obj)} {σ : St} {H : Hp} {s : Shared} {a : Addr} {o : Obj}
end
end L2.LW
set_option linter.all false
set_option maxHeartbeats 4000000
namespace L2.LW
open PySem PySem.Spec PySem.W PySem.Calls PyProof.Rows
section
variable {X : Cx} {pins : List (Addr × Obj)} {σ : St} {H : Hp} {s : Shared} {a : Addr} {o : Obj}
end
end L2.LW
set_option linter.all false
set_option maxHeartbeats 4000000
namespace L2.LW
open PySem PySem.Spec PySem.W PySem.Calls PyProof.Rows
section
variable {X : Cx} {cl : Nat → Value} {E : XK} {fa : Nat → List D → Option Ans} {fuel : Nat}
end
end L2.LW
namespace L2.LW
open PySem PySem.Spec PySem.W PySem.Calls PyProof.Rows
theorem all_cons {P : Nat → Prop} {a : Nat} {l : List Nat} (h : P a) (t : ∀ c ∈ l, P c) : ∀ c ∈ a :: l, P c := fun c hc => by
  rcases List.mem_cons.mp hc with rfl | hc
  · exact h
  · exact t c hc
section
variable {X : Cx} {CL : Nat → Addr} {cs : List Nat} {k : Nat} {n y : Str} {p p1 p2 pos : Pos}
end
end L2.LW
set_option linter.all false
set_option maxHeartbeats 4000000
set_option maxRecDepth 100000
namespace L2.LW
open PySem PySem.Spec PySem.W PySem.Calls PyProof.Rows PySem.Builtin
section
variable {X : Cx}
end
end L2.LW
set_option linter.all false
set_option maxHeartbeats 4000000
namespace L2.LW
open PySem PySem.Spec PySem.W PySem.Calls PyProof.Rows
noncomputable def Ite (n : Nat) (itm : Nat → Option V) (ok : Hp → Prop) : It :=
  ⟨fun i H => i < n ∧ ok H, fun i H v H' => ∃ p x, H p = Option.none ∧ v = .ref p ∧ H' = upd H p (.tup [.int i, x]) ∧ itm i = some x, fun i H => i = n ∧ ok H⟩
section
variable {X : Cx} {pins : List (Addr × Obj)} {σ : St} {H : Hp} {s : Shared}
theorem inv_pair {e it : Addr} {h' : Heap} {i : Int} {tk : Tok} {k : Nat} {x : V} {u : Value} (I : Inv X pins σ H s) (fe : FpOk X pins H e) (fi : FpOk X pins H it)
    (kp : ∀ b o, b ≠ e → b ≠ it → s.heap.get? b = some o → h'.get? b = some o) (ht : h'.get? s.heap.objs.size = some { cls := .type "tuple", data := .seq #[.int i tk, u] }) (rx : RelV x u) :
    Inv X pins σ (upd H s.heap.objs.size (.tup [.int i, x])) { s with heap := h', toks := k } := by
  have low : ∀ b o, s.heap.get? b = some o → b ≠ s.heap.objs.size := fun b o z => Nat.ne_of_lt (Heap.lt_size z)
  have lowH : ∀ b o, H b = some o → b ≠ s.heap.objs.size := fun b o z => Nat.ne_of_lt (I.hok.lt z)
  have un : Un (frs X.stack) [e, it] H (upd H s.heap.objs.size (.tup [.int i, x])) s.heap h' :=
    ⟨fun b o z _ _ hx => kp b o (fun y => hx (by simp [y])) (fun y => hx (by simp [y])) z, fun b o z _ _ hx => ⟨o.slots, kp b o (fun y => hx (by simp [y])) (fun y => hx (by simp [y])) z⟩,
     fun b o z n _ => by rw [upd_ne (low b o z)]; exact n, fun b o z hx => ⟨o, kp b o (fun y => hx (by simp [y])) (fun y => hx (by simp [y])) z⟩,
     fun b xs z => by rw [upd_ne (lowH b _ z)]; exact z, fun b o u z => by rw [upd_ne (lowH b _ z)]; exact z, fun b ps z => ⟨#[], by rw [upd_ne (lowH b _ z)]; simpa using z⟩⟩
  have ok : HOk X.prog X.w (upd H s.heap.objs.size (.tup [.int i, x])) h' := fun a o z => by
    by_cases ha : a = s.heap.objs.size
    · subst ha
      rw [upd_same] at z
      cases z
      exact ⟨by show 2 ≤ sizeLine; decide, [.int i tk, u], .cons ⟨tk, rfl⟩ (.cons rx .nil), _, ht, rfl, _, rfl⟩
    · rw [upd_ne ha] at z
      have nt : ∀ b, (b = a ∨ H b = some (.own a)) → b ≠ e ∧ b ≠ it := fun b hb => by
        have hb' : H b ≠ Option.none := by
          rcases hb with rfl | hb
          · rw [z]; exact fun z => nomatch z
          · rw [hb]; exact fun z => nomatch z
        exact ⟨fun y => hb' (by rw [y]; exact fe.1), fun y => hb' (by rw [y]; exact fi.1)⟩
      exact (I.hok a o z).stay (fun b u hb q => kp b u (nt b hb).1 (nt b hb).2 q) (fun b q => by rw [upd_ne (lowH b _ q)]; exact q) fun b xs q => by rw [upd_ne (lowH b _ q)]; exact q
  refine I.call' (s' := { s with heap := h', toks := k }) rfl un ok I.bare fun b hb => ?_
  rcases List.mem_cons.mp hb with rfl | hb
  · exact ⟨fe.2.2.2.1, fe.2.1, fe.2.2.2.2.1, fe.2.2.2.2.2⟩
  · obtain rfl := List.mem_singleton.mp hb
    exact ⟨fi.2.2.2.1, fi.2.1, fi.2.2.2.2.1, fi.2.2.2.2.2⟩
theorem inv_two {e it : Addr} {h' : Heap} (I : Inv X pins σ H s) (fi : FpOk X pins H it) (kp : ∀ b o, b ≠ it → s.heap.get? b = some o → h'.get? b = some o) : Inv X pins σ H { s with heap := h' } :=
  I.turned (t' := s.toks) (fun b o hb z => kp b o hb z) fi.1 fi.2.1 fi.2.2.2.1 fi.2.2.2.2.1 fi.2.2.2.2.2
end
theorem go_enum {P : Program} {w : World} {A : Around} {E : Value → Shared → Prop} {s : Shared} {elts : List Expr} {kt : Nat} {pt : Pos} {e it a : Addr} {i : Int} {item : Value} {Q : Unit → Shared → Prop} (he : IsEnumOut s.heap e it i item a)
    (hQ : ∀ h', IsEnum h' e it i item → Heap.SameBut e s.heap h' → Q () { s with heap := h' }) : wpAny (model P w) A (letOwnedTupleGo (.Tuple elts kt pt) (.ref e) (.ref a)) Q E s := wpAny_letOwnedTupleGo_enum he hQ
theorem turn_enumL {P : Program} {w : World} {K : PySem.W.Frag} {elts : List Expr} {kt : Nat} {pt : Pos} {xs : List V} (a it e : Addr) (ne : e ≠ it) :
    Turn P w K (.Tuple elts kt pt) (Ite xs.length (fun i => xs[i]?) fun H => SqL K H a xs) [e, it] e (fun i h => (∃ old, IsEnum h e it i old) ∧ h.IsListIter it a i) where
  mem := by simp
  obj := fun i h ⟨⟨old, st⟩, st2⟩ b hb => by
    rcases List.mem_cons.mp hb with rfl | hb
    · exact ⟨_, st, fun v z => by cases z⟩
    · obtain rfl := List.mem_singleton.mp hb
      obtain ⟨o, e1, c, d⟩ := st2
      exact ⟨o, e1, fun v z => by rw [d] at z; cases z⟩
  keep := fun i h h' ⟨⟨old, st⟩, st2⟩ k => ⟨⟨old, k e (by simp) _ st⟩, st2.at fun o z => k it (by simp) o z⟩
  item := by
    intro X hP hw hK hc i pins s σ H E I hf ⟨⟨old, st⟩, st2⟩ ⟨hlt, hq⟩
    subst hP hw hK
    obtain ⟨its, rv, p, hz⟩ := I.list hq
    obtain ⟨u, hu, ru⟩ := rv.get (show xs[i]? = some xs[i] by simp [hlt])
    refine wpAny_pyNext_enum_item st st2 p.isList (x := u) (by simpa using hu) ne fun h1 eo l1 tp sz kp => ?_
    refine ⟨_, rfl, go_enum eo fun h2 en sb => ?_⟩
    have lt : e < s.heap.objs.size := Heap.lt_size st
    have lt2 : it < s.heap.objs.size := by obtain ⟨o, z, _⟩ := st2; exact Heap.lt_size z
    have I2 := inv_pair (h' := h2) (i := (i : Int)) (tk := s.toks) (k := s.toks + 1) I (hf e (by simp)) (hf it (by simp)) (fun b o n1 n2 z => (sb.2 b n1).trans (kp b o n1 n2 z)) ((sb.2 _ (Nat.ne_of_gt lt)).trans tp) ru
    refine ⟨.ref s.heap.objs.size, _, I2, rfl, ⟨_, _, I.fresh, rfl, rfl, by simp [hlt]⟩, ⟨⟨u, ?_⟩, l1.extBut sb.extBut (Ne.symm ne)⟩, fun b hb => ?_⟩
    · have e2 : ((i + 1 : Nat) : Int) = (i : Int) + 1 := by omega
      rw [e2]; exact en
    · have nb : b ≠ s.heap.objs.size := by
        rcases List.mem_cons.mp hb with rfl | hb
        · exact Nat.ne_of_lt lt
        · obtain rfl := List.mem_singleton.mp hb; exact Nat.ne_of_lt lt2
      rw [upd_ne nb]; exact (hf b hb).1
  done := by
    intro X hP hw hK hc i pins s σ H E I hf ⟨⟨old, st⟩, st2⟩ ⟨hge, hq⟩
    subst hP hw hK
    obtain ⟨its, rv, p, hz⟩ := I.list hq
    have hl := rv.length
    exact wpAny_pyNext_enum_end (I.ok.hd hc) st st2 p.isList (by simp; omega) fun h' eb => ⟨rfl, inv_two (e := e) I (hf it (by simp)) fun b o hb z => eb b o hb z⟩
  self := fun _ _ _ _ _ ⟨⟨_, st⟩, _⟩ h => wpAny_pyIter_enum st h
noncomputable def signs (x : Str) : List V := x.cps.toList.map fun c => V.str ⟨#[c]⟩
theorem draws_str {P : Program} {w : World} {A : Around} (hh : A.handled = Option.none) (it : Addr) (x : Str) (t : Tok) :
    Draws P w A it [it] x.cps.size (fun i v => ∃ c u, x.cps[i]? = some c ∧ v = .str ⟨#[c]⟩ u) (fun i h => h.IsStrIter it (strIterType x) x t i) := by
  unfold strIterType
  by_cases h : (x.cps.all (· < 128)) = true
  · rw [if_pos h]; exact Draws.strAscii hh it x t
  · rw [if_neg h]; exact Draws.strWide hh it x t
theorem turn_enumS {P : Program} {w : World} {K : PySem.W.Frag} {elts : List Expr} {kt : Nat} {pt : Pos} {x : Str} {t : Tok} (it e : Addr) (ne : e ≠ it) :
    Turn P w K (.Tuple elts kt pt) (Ite x.cps.size (fun i => (signs x)[i]?) fun _ => True) [e, it] e (fun i h => (∃ old, IsEnum h e it i old) ∧ h.IsStrIter it (strIterType x) x t i) where
  mem := by simp
  obj := fun i h ⟨⟨old, st⟩, st2⟩ b hb => by
    rcases List.mem_cons.mp hb with rfl | hb
    · exact ⟨_, st, fun v z => by cases z⟩
    · obtain rfl := List.mem_singleton.mp hb
      obtain ⟨o, e1, c, d⟩ := st2
      exact ⟨o, e1, fun v z => by rw [d] at z; cases z⟩
  keep := fun i h h' ⟨⟨old, st⟩, o, e1, r⟩ k => ⟨⟨old, k e (by simp) _ st⟩, o, k it (by simp) o e1, r⟩
  item := by
    intro X hP hw hK hc i pins s σ H E I hf ⟨⟨old, st⟩, st2⟩ ⟨hlt, _⟩
    subst hP hw hK
    have D := draws_str (P := X.prog) (w := X.w) (A := X.A.in1) (I.ok.hd hc) it x t
    refine wpAny_pyNext_enum_itemD D st st2 hlt ne (by simpa using ne) fun v h1 tk ⟨c, u, hc1, hv⟩ eo l1 tp sz kp => ?_
    subst hv
    refine ⟨_, rfl, go_enum (s := { s with heap := h1, toks := tk + 1 }) eo fun h2 en sb => ?_⟩
    have lt : e < s.heap.objs.size := Heap.lt_size st
    have lt2 : it < s.heap.objs.size := by obtain ⟨o, z, _⟩ := st2; exact Heap.lt_size z
    have I2 := inv_pair (h' := h2) (i := (i : Int)) (tk := tk) (k := tk + 1) (x := V.str ⟨#[c]⟩) I (hf e (by simp)) (hf it (by simp)) (fun b o n1 n2 z => (sb.2 b n1).trans (kp b o n1 n2 z)) ((sb.2 _ (Nat.ne_of_gt lt)).trans tp) ⟨u, rfl⟩
    refine ⟨.ref s.heap.objs.size, _, I2, rfl, ⟨_, _, I.fresh, rfl, rfl, ?_⟩, ⟨⟨.str ⟨#[c]⟩ u, ?_⟩, D.frame _ _ _ l1 fun b hb o z => ?_⟩, fun b hb => ?_⟩
    · show (signs x)[i]? = _
      unfold signs
      rw [List.getElem?_map, Array.getElem?_toList, hc1]; rfl
    · have e2 : ((i + 1 : Nat) : Int) = (i : Int) + 1 := by omega
      rw [e2]; exact en
    · obtain rfl := List.mem_singleton.mp hb
      exact (sb.2 b (Ne.symm ne)).trans z
    · have nb : b ≠ s.heap.objs.size := by
        rcases List.mem_cons.mp hb with rfl | hb
        · exact Nat.ne_of_lt lt
        · obtain rfl := List.mem_singleton.mp hb; exact Nat.ne_of_lt lt2
      rw [upd_ne nb]; exact (hf b hb).1
  done := by
    intro X hP hw hK hc i pins s σ H E I hf ⟨⟨old, st⟩, st2⟩ ⟨hge, _⟩
    subst hP hw hK
    subst hge
    have D := draws_str (P := X.prog) (w := X.w) (A := X.A.in1) (I.ok.hd hc) it x t
    exact wpAny_pyNext_enum_endD D st st2 fun h' eb => ⟨rfl, inv_two (e := e) I (hf it (by simp)) fun b o hb z => eb b o hb z⟩
  self := fun _ _ _ _ _ ⟨⟨_, st⟩, _⟩ h => wpAny_pyIter_enum st h
end L2.LW
set_option linter.all false
set_option maxHeartbeats 4000000
namespace L2.LW
open PySem PySem.Spec PySem.W PySem.Calls PyProof.Rows PySem.Builtin PySem.Builtin.Str
noncomputable def joinC (c : Nat) : List (List Nat) → List Nat
  | [] => []
  | [p] => p
  | p :: q :: r => p ++ c :: joinC c (q :: r)
theorem cut_pre {c : Nat} : ∀ {p l : List Nat} {q : List Nat} {r : List (List Nat)}, c ∉ p → cutC c l = q :: r → cutC c (p ++ l) = (p ++ q) :: r
  | [], _, _, _, _, h => h
  | a :: p, l, q, r, hn, h => by
    have ha : a ≠ c := fun z => hn (by rw [z]; exact List.mem_cons_self)
    have := cut_pre (p := p) (fun z => hn (List.mem_cons_of_mem _ z)) h
    show cutC c (a :: (p ++ l)) = _
    rw [cutC, if_neg ha, this]
    rfl
theorem cut_free {c : Nat} {p : List Nat} (hn : c ∉ p) : cutC c p = [p] := by
  have := cut_pre (l := []) (q := []) (r := []) hn rfl
  simpa using this
theorem cut_join {c : Nat} : ∀ {ps : List (List Nat)}, ps ≠ [] → (∀ p ∈ ps, c ∉ p) → cutC c (joinC c ps) = ps
  | [], h, _ => absurd rfl h
  | [p], _, h => cut_free (h p List.mem_cons_self)
  | p :: q :: r, _, h => by
    have ih := cut_join (ps := q :: r) (by simp) fun x hx => h x (List.mem_cons_of_mem _ hx)
    show cutC c (p ++ c :: joinC c (q :: r)) = _
    have e : cutC c (c :: joinC c (q :: r)) = [] :: (q :: r) := by rw [cutC, if_pos rfl, ih]
    rw [cut_pre (h p List.mem_cons_self) e, List.append_nil]
theorem join_cps (c : Nat) : ∀ ps : List Str, (Str.join ⟨#[c]⟩ ps).cps.toList = joinC c (ps.map fun p => p.cps.toList)
  | [] => rfl
  | [p] => rfl
  | p :: q :: r => by
    have ih := join_cps c (q :: r)
    have e : Str.join ⟨#[c]⟩ (p :: q :: r) = p ++ ⟨#[c]⟩ ++ Str.join ⟨#[c]⟩ (q :: r) := rfl
    rw [e]
    have e2 : joinC c ((p :: q :: r).map fun p => p.cps.toList) = p.cps.toList ++ c :: joinC c ((q :: r).map fun p => p.cps.toList) := rfl
    rw [e2, ← ih]
    have e3 : ∀ a b : Str, (a ++ b).cps = a.cps ++ b.cps := fun _ _ => rfl
    rw [e3, e3]
    simp
theorem split_rows (x : Str) : Txt.split x ⟨#[10]⟩ = rowsOf x := by
  have h1 := StrLaws.join_split x ⟨#[10]⟩
  have h2 := StrLaws.split_free x 10
  have h3 := split_pos x ⟨#[10]⟩
  generalize Txt.split x ⟨#[10]⟩ = ps at h1 h2 h3
  have e : x.cps.toList = joinC 10 (ps.map fun p => p.cps.toList) := by rw [← join_cps, h1]
  unfold rowsOf
  rw [e, cut_join (by cases ps <;> simp_all) (fun p hp => by
    rw [List.mem_map] at hp
    obtain ⟨q, hq, rfl⟩ := hp
    exact h2 q hq), List.map_map]
  have : ∀ l : List Str, l = l.map ((fun l => (⟨l.toArray⟩ : Str)) ∘ fun p => p.cps.toList) := fun l => by
    induction l with
    | nil => rfl
    | cons a r ih => rw [List.map_cons, ← ih]; rfl
  exact this ps
theorem glue_join (ys : List Str) : Txt.join ⟨#[]⟩ ys = glue0 ys := by
  unfold Txt.join glued glue0
  have key : ∀ (l : List Str) (acc : Array Nat), l.foldl (fun acc p => acc ++ (⟨#[]⟩ : Str).cps ++ p.cps) acc = acc ++ (l.flatMap fun y => y.cps.toList).toArray := fun l => by
    induction l with
    | nil => intro acc; simp
    | cons a r ih =>
      intro acc
      rw [List.foldl_cons, ih]
      apply Array.toList_inj.mp
      simp
  cases ys with
  | nil => rfl
  | cons a r =>
    show (⟨(r.foldl _ a.cps)⟩ : Str) = _
    rw [key]
    congr 1
    apply Array.toList_inj.mp
    simp
end L2.LW
namespace L2.LW
open PySem PySem.Spec PySem.W PySem.Calls PyProof.Rows PySem.Builtin PySem.Builtin.Str
theorem split_call {P : Program} {w : World} {A : Around} {E : Value → Shared → Prop} {s : Shared} {x y : Str} {t u : Tok} {Q : Value → Shared → Prop} (hy : (y.length == 0) = false) (hsz : x.length + 2 ≤ sizeLine)
    (h : ∀ l k, l.map (·.1) = Txt.split x y → Q (.ref s.heap.objs.size) { s with heap := s.heap.push { cls := .type "list", data := .seq (strValues l).toArray }, toks := k }) :
    wpAny (model P w) A (call (.builtin "str.split") [.str x t, .str y u]) Q E s := by
  have hn : (partsBetween x (occurrences x y 0 x.length (x.length + 1)) y.length).length ≤ sizeLine := by
    have := StrLaws.occ_length_le x y 0 x.length (x.length + 1)
    rw [length_partsBetween]; omega
  cases h1 : (decide (x.length < y.length) || decide (strKind x < strKind y)) with
  | true => exact call_meets PySem.F.slot_str_split (typeIs_str _ _ _) PySem.F.entry_str_split (PySem.F.args_str_split_2 _ _) (meets_str_split_cannot_occur x y t u h1) (h [(x, t)] s.toks (if_pos h1).symm)
  | false =>
    cases hf : (occurrences x y 0 x.length (x.length + 1)).isEmpty with
    | true => exact call_meets PySem.F.slot_str_split (typeIs_str _ _ _) PySem.F.entry_str_split (PySem.F.args_str_split_2 _ _) (meets_str_split_not_found x y t u h1 hy hf) (h [(x, t)] s.toks ((if_neg (ne_true_of_eq_false h1)).trans (if_pos hf)).symm)
    | false =>
      refine call_meets PySem.F.slot_str_split (typeIs_str _ _ _) PySem.F.entry_str_split (PySem.F.args_str_split_2 _ _) (meets_str_split_sep x y t u h1 hy hf (by omega) hn) ?_
      have q := h (numbered s.toks (partsBetween x (occurrences x y 0 x.length (x.length + 1)) y.length)) (s.toks + (partsBetween x (occurrences x y 0 x.length (x.length + 1)) y.length).length) ((numbered_texts _ _).trans ((if_neg (ne_true_of_eq_false h1)).trans (if_neg (ne_true_of_eq_false hf))).symm)
      rw [← strsFrom_eq] at q
      exact q
section
variable {X : Cx} {fn : Nat → List D → Option SV}
theorem reps_strs {K : PySem.W.Frag} {W : Addr → Prop} {H : Hp} : ∀ {l : List D} {xs : List V} {ys : List Str}, Reps K W H l xs → strs? l = some ys → xs = ys.map V.str
  | [], _, _, .nil, e => by cases e; rfl
  | d :: l, _, ys, .cons h t, e => by
    cases d with
    | str x =>
      simp only [strs?, Option.map_eq_some_iff] at e
      obtain ⟨zs, e1, rfl⟩ := e
      rw [reps_strs t e1]
      cases h
      rfl
    | _ => cases e
theorem vals_strs : ∀ {ys : List Str} {us : List Value}, Vals (ys.map V.str) us → StrsAre us ys
  | [], _, .nil => .nil
  | y :: ys, _, .cons h t => by
    obtain ⟨u, rfl⟩ := h
    exact .cons y u (vals_strs t)
theorem strs_vals : ∀ (l : List (Str × Tok)), Vals ((l.map (·.1)).map V.str) (strValues l)
  | [] => .nil
  | p :: r => .cons ⟨p.2, rfl⟩ (strs_vals r)
theorem reps_of_strs {K : PySem.W.Frag} {W : Addr → Prop} {H : Hp} : ∀ (ys : List Str), Reps K W H (ys.map D.str) (ys.map V.str)
  | [] => .nil
  | y :: ys => .cons (.str y) (reps_of_strs ys)
theorem mt_join0 : MtR X "str.join" (fun x xs H Q => x = .str ⟨#[]⟩ ∧ VR X.K (primD .join0) xs H Q) := by
  rintro pins s σ H x xs v us Q I rx rs ⟨rfl, W, ds, r, wf, hs, hf, q⟩
  obtain ⟨t, rfl⟩ := rx
  replace hf : pJoin0 ds = some r := hf
  unfold pJoin0 at hf
  split at hf
  case h_2 => cases hf
  rename_i l
  rw [Option.bind_eq_some_iff] at hf
  obtain ⟨ys, e1, hf⟩ := hf
  split at hf
  case isFalse => cases hf
  rename_i hl
  cases hf
  cases hs with
  | cons h1 t1 =>
    cases t1
    obtain ⟨p, zs, rfl, hp, rp⟩ := h1.lst
    have ez := reps_strs rp e1
    subst ez
    obtain ⟨u, rfl, ru⟩ := vals1 rs
    cases ru
    obtain ⟨its, rv, pl, hz⟩ := I.list hp
    refine join_list (ys := ys) pl.isList (by simpa using vals_strs rv) (by show _ + _ * 0 ≤ _; omega) fun t' k => ?_
    rw [glue_join]
    exact ⟨.str _, H, I.tok k, ⟨t', rfl⟩, q _ H (.refl H) (.val (.str _))⟩
theorem mt_split : MtR X "str.split" (fun x xs H Q => xs = [.str ⟨#[10]⟩] ∧ VR X.K (primD .splitN) [x] H Q) := by
  rintro pins s σ H x xs v us Q I rx rs ⟨rfl, W, ds, r, wf, hs, hf, q⟩
  obtain ⟨d, rfl, h1⟩ := pr1 hs
  replace hf : pSplitN [d] = some r := hf
  unfold pSplitN at hf
  split at hf
  case h_2 => cases hf
  rename_i y z
  cases z
  split at hf
  case isFalse => cases hf
  rename_i hl
  cases hf
  cases h1.str
  obtain ⟨t, rfl⟩ := rx
  obtain ⟨u, rfl, ru⟩ := vals1 rs
  obtain ⟨t2, rfl⟩ := ru
  have sl := sizeLine_eq
  refine split_call rfl (by omega) fun l k e => ?_
  rw [split_rows] at e
  have hlen : (rowsOf y).length ≤ sizeLine := by
    rw [← split_rows]; have := split_le y ⟨#[10]⟩; omega
  have rv := strs_vals l
  rw [e] at rv
  exact ⟨.ref _, _, I.lnew (t' := k) rv (by rw [List.length_map]; exact hlen), rfl, q _ _ (same_upd I.fresh _) (res_new I.fresh (reps_of_strs _))⟩
theorem vr_addS : OpR X (binaryOp .Add) (VR2 X.K (primD .addS)) := by
  rintro pins s σ H x y v u Q I rx ry ⟨W, ds, r, wf, hs, hf, q⟩
  obtain ⟨d, e, rfl, h1, h2⟩ := pr2 hs
  replace hf : pAddS [d, e] = some r := hf
  unfold pAddS at hf
  split at hf
  case h_2 => cases hf
  rename_i a b z
  cases z
  split at hf
  case isFalse => cases hf
  rename_i hl
  cases hf
  cases h1.str; cases h2.str
  have sl := sizeLine_eq
  exact op_add_str pins s σ H _ _ v u Q I rx ry ⟨a, b, rfl, rfl, by omega, q _ H (.refl H) (.val (.str _))⟩
end
end L2.LW
set_option linter.all false
set_option maxHeartbeats 4000000
namespace L2.LW
open PySem PySem.Spec PySem.W PySem.Calls PyProof.Rows
section
variable {X : Cx} {fn : Nat → List D → Option SV} {fa : Nat → List D → Option Ans} {fuel : Nat} {a b c e : Expr} {ca cb cc ce : E} {pos p : Pos} {x : Str}
theorem i_join0 {j : Nat} {p1 apos cpos : Pos} (he : IE X fn e ce) (hx : x = ⟨#[]⟩) (hst : starEach [e] X.env = (false, eval e X.env) :: starEach [] X.env)
    (hbase : attributeBase (.Constant (.str x) j p1) "join" X.env (eval (.Constant (.str x) j p1) X.env) = eval (.Constant (.str x) j p1) X.env := by rfl) (hline : (apos.endLine == cpos.line) = true := by rfl) :
    IE X fn (.Call (.Attribute (.Constant (.str x) j p1) "join" apos) [e] [] cpos) (.prim .join0 (.cons ce .nil)) :=
  .mk <| (pe_bm PySem.F.plainAttrs_str PySem.F.slot_str_join PySem.F.type_str_join mt_join0 pe_str (pa_cons he.v pa_nil hst) hbase (by rw [hst]; rfl) hline hst sa_nil).imp fun σ H Q ⟨W, ρ, r, hR, h, q⟩ => by
    simp only [evE, evEs, Option.bind_eq_some_iff, Option.map_eq_some_iff] at h
    obtain ⟨rs, ⟨r1, e1, rs', e3, rfl⟩, e4⟩ := h
    cases e3
    refine ⟨rfl, W, ρ, r1, hR, e1, fun v1 H1 s1 f1 => ⟨by rw [hx], args_vr hR s1 (.cons f1 .nil) e4 q⟩⟩
theorem i_split {j : Nat} {p1 apos cpos : Pos} (he : IE X fn e ce) (hx : x = ⟨#[10]⟩) (hbase : attributeBase e "split" X.env (eval e X.env) = eval e X.env := by rfl) (hline : (apos.endLine == cpos.line) = true := by rfl) :
    IE X fn (.Call (.Attribute e "split" apos) [.Constant (.str x) j p1] [] cpos) (.prim .splitN (.cons ce .nil)) :=
  .mk <| (pe_bm PySem.F.plainAttrs_str PySem.F.slot_str_split PySem.F.type_str_split mt_split he.v (pa_cons pe_str pa_nil star_Constant) hbase (by rw [star_Constant]; rfl) hline star_Constant sa_nil).imp fun σ H Q ⟨W, ρ, r, hR, h, q⟩ => by
    simp only [evE, evEs, Option.bind_eq_some_iff, Option.map_eq_some_iff] at h
    obtain ⟨rs, ⟨r1, e1, rs', e3, rfl⟩, e4⟩ := h
    cases e3
    refine ⟨W, ρ, r1, hR, e1, fun v1 H1 s1 f1 => ?_⟩
    have e5 : pSplitN [seeD r1] = some r := e4
    unfold pSplitN at e5
    split at e5
    case h_2 => cases e5
    rename_i y z
    have z1 : seeD r1 = .str y := by simpa using z
    have hs := f1.sees
    rw [z1] at hs
    cases hs.str
    exact ⟨rfl, by rw [hx], args_vr hR s1 (.cons f1 .nil) e4 q⟩
end
theorem pairs_get : ∀ {k n : Nat} {l : List D} {d : D}, (pairsD n l)[k]? = some d → ∃ x, l[k]? = some x ∧ d = .tup [.int ((n + k : Nat) : Int), x]
  | _, _, [], _, h => by simp [pairsD] at h
  | 0, n, x :: l, d, h => by
    simp only [pairsD, List.getElem?_cons_zero, Option.some.injEq] at h
    exact ⟨x, rfl, h.symm⟩
  | k + 1, n, x :: l, d, h => by
    simp only [pairsD, List.getElem?_cons_succ] at h
    obtain ⟨y, h1, h2⟩ := pairs_get h
    refine ⟨y, by simpa using h1, ?_⟩
    rw [h2]
    congr 3
    omega
theorem pairs_len : ∀ (n : Nat) (l : List D), (pairsD n l).length = l.length
  | _, [] => rfl
  | n, _ :: l => by simp [pairsD, pairs_len (n + 1) l]
noncomputable def YE (K : PySem.W.Frag) (J : It) (W : Addr → Prop) (H : Hp) (ds : List D) : Prop :=
  ∀ W' H', Ext W H W' H' → ∀ k : Nat, (k = ds.length → J.stop k H') ∧ ∀ d, ds[k]? = some d → J.go k H' ∧ ∀ x H'', J.yld k H' x H'' → Same H' H'' ∧ Rep K W' H'' d x
section
variable {X : Cx} {fn : Nat → List D → Option SV} {fa : Nat → List D → Option Ans} {fuel : Nat} {e : Expr} {ce : E} {pos p : Pos} {sts : List Stmt} {ss : Ss} {elts : List Expr} {kt : Nat} {pt pos' : Pos}
noncomputable def tEn (K : PySem.W.Frag) (fn : Nat → List D → Option SV) (c : E) : TI := fun σ H R0 => ∃ W ρ r ds, R K W ρ σ H ∧ evE fn c ρ = some r ∧ enumD r = some ds ∧ ∀ J H1, Same H H1 → YE K J W H1 ds → R0 J H1
theorem ite_ye {K : PySem.W.Frag} {W : Addr → Prop} {H : Hp} {xs : List V} {l : List D} {itm : Nat → Option V} {ok : Hp → Prop} {n : Nat} (hn : n = l.length) (hi : ∀ i : Nat, itm i = xs[i]?) (hok : ∀ W' H', Ext W H W' H' → ok H') (hr : ∀ W' H', Ext W H W' H' → Reps K W' H' l xs) : YE K (Ite n itm ok) W H (pairsD 0 l) := by
  intro W' H' x k
  rw [pairs_len]
  refine ⟨fun z => ⟨by omega, hok W' H' x⟩, fun d hd => ?_⟩
  obtain ⟨y, h1, rfl⟩ := pairs_get hd
  have lt : k < l.length := (List.getElem?_eq_some_iff.mp h1).1
  refine ⟨⟨by omega, hok W' H' x⟩, ?_⟩
  rintro v H'' ⟨q, w, hq, rfl, rfl, hw⟩
  have sm : Same H' (upd H' q (.tup [.int k, w])) := same_upd hq _
  refine ⟨sm, ?_⟩
  obtain ⟨w', g1, g2⟩ := (hr W' H' x).get h1
  rw [hi, g1] at hw
  cases hw
  rw [Nat.zero_add]
  exact .tup upd_same (.cons (.int _) (.cons (g2.ext (.same sm)) .nil))
theorem pi_enum (hg : Gl X "enumerate") (hm : X.mg "enumerate" = Option.none) (he : IE X fn e ce) (hst : starEach [e] X.env = [(false, eval e X.env)]) :
    PI X (.Tuple elts kt pt) (.Call (.Name "enumerate" p) [e] [] pos) (tEn X.K fn ce) := by
  intro pins s σ H R0 I ⟨W, ρ, r, ds, hR, h1, h2, q1⟩
  refine wpAny_Call_Name_kw (ld_blt I hg hm PyProof.Rows.boot_enumerate ?_ (by decide) (by decide))
  have hA := (pa_cons he.v pa_nil hst) pos pins s σ H (fun vs H1 => ∃ v, vs = [v] ∧ Same H H1 ∧ Frz X.K W H1 r v) I ⟨W, ρ, r, hR, h1, fun v H1 s1 f1 => ⟨v, rfl, s1, f1⟩⟩
  refine PyProof.Rows.callWith_type1 (thn hA fun us s1 ⟨vs, H1, I1, rv, v, hv, s01, f1⟩ => ?_) hst sa_nil
  subst hv
  obtain ⟨u, rfl, ru⟩ := vals1 rv
  unfold enumD at h2
  split at h2
  · rename_i l
    cases h2
    cases f1 with
    | @lis d q o hw hH ro =>
      cases ro with
      | @lst xs ds' rp =>
        cases ru
        obtain ⟨its, rv2, pl, hz⟩ := I1.list (SqL.of hH)
        refine call_enumerate_list pl.isList fun h' en li sz kp => ?_
        refine wpAny_pyIter_enum en ?_
        have I2 : Inv X pins σ H1 { s1 with heap := h' } := I1.kept (t' := s1.toks) kp
        refine ⟨s1.heap.objs.size + 1, [s1.heap.objs.size + 1, s1.heap.objs.size], _, _, H1, rfl, I2, turn_enumL (xs := xs) q s1.heap.objs.size (s1.heap.objs.size + 1) (Nat.succ_ne_self _), ⟨⟨_, en⟩, li⟩, fun b hb => ?_, q1 _ H1 s01 (ite_ye (xs := xs) rp.length.symm (fun _ => rfl) (fun W' H' x => .of (x.keep _ _ hH hw)) fun W' H' x => rp.ext x)⟩
        rcases List.mem_cons.mp hb with rfl | hb
        · exact I1.fpOk (Nat.le_succ _) (I1.hok.fresh (Nat.le_succ _))
        · obtain rfl := List.mem_singleton.mp hb
          exact I1.fpOk (Nat.le_refl _) (I1.hok.fresh (Nat.le_refl _))
  · rename_i y ap
    cases h2
    cases f1 with
    | val h =>
      cases h
      obtain ⟨t, rfl⟩ := ru
      refine call_enumerate_str fun h' en li sz kp => ?_
      refine wpAny_pyIter_enum en ?_
      have I2 : Inv X pins σ H1 { s1 with heap := h' } := I1.kept (t' := s1.toks) kp
      have rp : ∀ (W' : Addr → Prop) (H' : Hp), Reps X.K W' H' (signsD y) (signs y) := fun W' H' => by
        unfold signsD signs
        induction y.cps.toList with
        | nil => exact .nil
        | cons c r ih => exact .cons (.str _) ih
      refine ⟨s1.heap.objs.size + 1, [s1.heap.objs.size + 1, s1.heap.objs.size], _, _, H1, rfl, I2, turn_enumS (x := y) (t := t) s1.heap.objs.size (s1.heap.objs.size + 1) (Nat.succ_ne_self _), ⟨⟨_, en⟩, li⟩, fun b hb => ?_, q1 _ H1 s01 (ite_ye (xs := signs y) (by simp [signsD]) (fun _ => rfl) (fun _ _ _ => trivial) fun W' H' x => rp W' H')⟩
      rcases List.mem_cons.mp hb with rfl | hb
      · exact I1.fpOk (Nat.le_succ _) (I1.hok.fresh (Nat.le_succ _))
      · obtain rfl := List.mem_singleton.mp hb
        exact I1.fpOk (Nat.le_refl _) (I1.hok.fresh (Nat.le_refl _))
  · cases h2
theorem for_coreE {K : PySem.W.Frag} {J : It} {ds : List D} {i j : Nat} {ex : LW.Env → Option (Fl × LW.Env)} {W : Addr → Prop} {ρ : LW.Env} {σ : St} {H : Hp} {x : Fl × LW.Env} {D0 : Ends} (hR : R K W ρ σ H) (hfi : ¬ isIo ρ i) (hfj : ¬ isIo ρ j) (hy : YE K J W H ds)
    (hx : forLU i j ex ds ρ = some x) (q : ∀ W' σ' H', SPost K W ρ σ H W' x.2 σ' H' → FlOk K W ρ σ W' x.2 σ' H' D0 x.1) :
    ∃ Wv : Nat → Nat → St → Hp → Prop, (∃ m, Wv 0 m σ H) ∧ ∀ k m σ' H', Wv k m σ' H' →
      (J.stop k H' ∧ D0.nx σ' H') ∨ (J.go k H' ∧ ∃ N : St → Hp → Prop, (∀ σ2 H2, N σ2 H2 → ∃ m', m' < m ∧ Wv (k + 1) m' σ2 H2) ∧ ∀ v H2, J.yld k H' v H2 → gTup K 2 (gCons (gName i) (gCons (gName j) gNil)) v σ' H2 fun σ2 H2 => tSs K ex { D0 with nx := N, ct := N, bk := D0.nx } σ2 H2) := by
  refine ⟨fun k m σ' H' => m = ds.length - k ∧ k ≤ ds.length ∧ ∃ W' ρ', SPost K W ρ σ H W' ρ' σ' H' ∧ forLU i j ex (ds.drop k) ρ' = some x, ⟨_, rfl, Nat.zero_le _, W, ρ, .same hR (.refl H), hx⟩, ?_⟩
  rintro k m σ' H' ⟨rfl, hk, W', ρ', p0, hf⟩
  obtain ⟨hstop, hgo⟩ := hy W' H' (p0.ext hR) k
  by_cases hlt : k < ds.length
  · have hd : ds[k]? = some ds[k] := by simp [hlt]
    obtain ⟨g1, g2⟩ := hgo _ hd
    rw [drop_cons hd] at hf
    generalize ds[k] = dk at hf g2
    unfold forLU at hf
    split at hf
    · rename_i z; cases z
    · rename_i a b r z
      injection z with z1 z2
      subst z1 z2
      rw [Option.bind_eq_some_iff] at hf
      obtain ⟨⟨fl, ρ2⟩, e1, e2⟩ := hf
      refine .inr ⟨g1, fun σ2 H2 => (ds.length - (k + 1)) = ds.length - (k + 1) ∧ k + 1 ≤ ds.length ∧ ∃ W' ρ', SPost K W ρ σ H W' ρ' σ2 H2 ∧ forLU i j ex (ds.drop (k + 1)) ρ' = some x, fun σ2 H2 h => ⟨_, by omega, h⟩, fun v H2 y => ?_⟩
      obtain ⟨sm, rv⟩ := g2 v H2 y
      have p := p0.trans (SPost.same p0.r sm) hR
      cases rv with
      | tup hH rp =>
        cases rp with
        | cons ra rp =>
          cases rp with
          | cons rb rp =>
            cases rp
            refine ⟨_, _, rfl, .of hH, rfl, _, _, rfl, _, _, rfl, rfl, ?_⟩
            have p1 := post_set_val (i := i) p.r (.refl H2) ra fun z => hfi ((p.io i).1.mp z)
            have p2 := post_set_val (i := j) p1.r (.refl H2) rb fun z => hfj ((p.io j).1.mp ((p1.io j).1.mp z))
            have p01 := (p.trans p1 hR).trans p2 hR
            refine ⟨W', _, (fl, ρ2), p2.r, e1, fun W3 σ3 H3 p3 => ?_⟩
            have p03 := p01.trans p3 hR
            cases fl with
            | nx => exact ⟨rfl, hlt, W3, ρ2, p03, e2⟩
            | ct => exact ⟨rfl, hlt, W3, ρ2, p03, e2⟩
            | br => cases e2; exact q W3 σ3 H3 p03
            | rt r => cases e2; exact fun v hv => q W3 σ3 H3 p03 v (hv.back p01)
    · cases hf
  · have e : k = ds.length := by omega
    rw [List.drop_of_length_le (by omega), forLU] at hf
    cases hf
    exact .inl ⟨hstop e, q W' σ' H' p0⟩
theorem s_forE (i j : Nat) {x y : Str} {px py : Pos} (hp : PassesOwn (model X.prog X.w) X.A X.env X.xe) (hc : X.calm = true) (hN : X.N.Nodup) (hi : X.N[i]? = some x) (hx : Loc X.env.scope x) (hj : X.N[j]? = some y) (hy : Loc X.env.scope y)
    (hg : Gl X "enumerate") (hm : X.mg "enumerate" = Option.none) (he : IE X (prj fa) e ce) (hst : starEach [e] X.env = [(false, eval e X.env)]) (hb : ISs X (exSs fa fuel ss) sts)
    (hf : X.fn x = true ∨ X.env.scope.names.lookup x = some .local := by first | exact .inl rfl | exact .inr rfl | assumption) (hf2 : X.fn y = true ∨ X.env.scope.names.lookup y = some .local := by first | exact .inl rfl | exact .inr rfl | assumption)
    (hfo : ∀ z, foldedSetIterable (.Call (.Name "enumerate" p) [e] [] pos) X.env z = pure z := by intro _; rfl) :
    IS X (exS fa fuel (.forE i j ce ss)) (.For (.Tuple [.Name x px, .Name y py] kt pt) (.Call (.Name "enumerate" p) [e] [] pos) sts [] pos') :=
  .mk <| (ps_for hp hc (pi_enum hg hm he hst) (pg_tup hc (pgs_cons (pg_name hN hi hx hf) (pgs_cons (pg_name hN hj hy hf2) pgs_nil))) hb.h hfo).imp fun D0 σ H ⟨W, ρ, y, hR, hy, q⟩ => by
    simp only [exS, Option.bind_eq_some_iff] at hy
    obtain ⟨r, e1, e2⟩ := hy
    split at e2
    · cases e2
    · rename_i hl
      simp only [Bool.not_eq_true, Bool.or_eq_false_iff, Bool.not_eq_false'] at hl
      rw [Option.bind_eq_some_iff] at e2
      obtain ⟨ds, e3, e4⟩ := e2
      refine ⟨W, ρ, r, ds, hR, e1, e3, fun J H1 s1 hyl => ?_⟩
      have p1 := SPost.same hR s1
      exact for_coreE p1.r (free_io hl.1) (free_io hl.2) hyl e4 fun W' σ' H' p => FlOk.back p1 (q W' σ' H' (p1.trans p hR))
end
end L2.LW
set_option linter.all false
namespace L2.LW
open PySem
section
variable {fn : Nat → List D → Option SV} {fa : Nat → List D → Option Ans} {fuel : Nat} {ρ : Env}
@[simp] theorem evE_int {i : Int} : evE fn (.int i) ρ = some (.val (.int i)) := by rw [evE]
@[simp] theorem evE_bl {i : Bool} : evE fn (.bl i) ρ = some (.val (.bl i)) := by rw [evE]
@[simp] theorem evE_non : evE fn .non ρ = some (.val .non) := by rw [evE]
@[simp] theorem evE_str {i : Str} : evE fn (.str i) ρ = some (.val (.str i)) := by rw [evE]
@[simp] theorem evE_var {i : Nat} : evE fn (.var i) ρ = look ρ i := by rw [evE]
@[simp] theorem evE_prim {p : Prim} {es : Es} : evE fn (.prim p es) ρ = (evEs fn es ρ).bind fun rs => primD p (rs.map seeD) := by rw [evE]
@[simp] theorem evE_tup {es : Es} : evE fn (.tup es) ρ = (evEs fn es ρ).bind fun rs => (toDs rs).map fun ds => .val (.tup ds) := by rw [evE]
@[simp] theorem evE_lst {es : Es} : evE fn (.lst es) ρ = (evEs fn es ρ).bind fun rs => (toDs rs).map fun ds => .obj true (.lst ds) := by rw [evE]
noncomputable def andV (r : SV) (k : Option SV) : Option SV := match r with
  | .val (.bl true) => k
  | .val (.bl false) => some (.val (.bl false))
  | _ => none
noncomputable def orV (r : SV) (k : Option SV) : Option SV := match r with
  | .val (.bl true) => some (.val (.bl true))
  | .val (.bl false) => k
  | _ => none
noncomputable def notV (r : SV) : Option SV := match r with
  | .val (.bl b) => some (.val (.bl (!b)))
  | _ => none
@[simp] theorem andV_bl {b : Bool} {k : Option SV} : andV (.val (.bl b)) k = if b then k else some (.val (.bl false)) := by cases b <;> rfl
@[simp] theorem orV_bl {b : Bool} {k : Option SV} : orV (.val (.bl b)) k = if b then some (.val (.bl true)) else k := by cases b <;> rfl
@[simp] theorem notV_bl {b : Bool} : notV (.val (.bl b)) = some (.val (.bl (!b))) := id rfl
@[simp] theorem evE_and {a b : E} : evE fn (.and a b) ρ = (evE fn a ρ).bind fun r => andV r (evE fn b ρ) := by rw [evE]; rfl
@[simp] theorem evE_or {a b : E} : evE fn (.or a b) ρ = (evE fn a ρ).bind fun r => orV r (evE fn b ρ) := by rw [evE]; rfl
@[simp] theorem evE_not {a : E} : evE fn (.not a) ρ = (evE fn a ρ).bind notV := by rw [evE]; rfl
@[simp] theorem evE_chain {p q : Prim} {a b c : E} : evE fn (.chain p q a b c) ρ = (evE fn a ρ).bind fun x => (evE fn b ρ).bind fun y => (primD p [seeD x, seeD y]).bind fun z => andV z ((evE fn c ρ).bind fun w => primD q [seeD y, seeD w]) := by rw [evE]; rfl
@[simp] theorem evE_ite {c a b : E} : evE fn (.ite c a b) ρ = (evT fn c ρ).bind fun k => if k then evE fn a ρ else evE fn b ρ := by rw [evE]
@[simp] theorem evE_call {f : Nat} {es : Es} : evE fn (.call f es) ρ = (evEs fn es ρ).bind fun rs => callR rs (fn f (rs.map seeD)) := by rw [evE]
theorem evE_comp {g : Bool} {src : Es} {cond elt : E} : evE fn (.comp g src cond elt) ρ = (evEs fn src ρ).bind fun rs => (itemsOf g rs).bind fun ds =>
    if ds.length ≤ line then (compL (fun d => evT fn cond (some (.val d) :: ρ)) (fun d => evE fn elt (some (.val d) :: ρ)) ds).map fun l => .obj true (.lst l) else none := by rw [evE]
@[simp] theorem evE_dnew {t : Bool} : evE fn (.dnew t) ρ = some (.obj true (.dct t [] [])) := by rw [evE]
@[simp] theorem evE_done {t : Bool} {k v : E} : evE fn (.done t k v) ρ = (evE fn k ρ).bind fun x => (evE fn v ρ).bind fun y => (toD x).bind fun a => (toD y).bind fun b => if isKey t a then some (.obj true (.dct t [a] [b])) else none := by rw [evE]
@[simp] theorem evEs_nil : evEs fn .nil ρ = some [] := by rw [evEs]
@[simp] theorem evEs_cons {e : E} {es : Es} : evEs fn (.cons e es) ρ = (evE fn e ρ).bind fun r => (evEs fn es ρ).map (r :: ·) := by rw [evEs]
@[simp] theorem evT_and {a b : E} : evT fn (.and a b) ρ = (evT fn a ρ).bind fun k => if k then evT fn b ρ else some false := by rw [evT]
@[simp] theorem evT_or {a b : E} : evT fn (.or a b) ρ = (evT fn a ρ).bind fun k => if k then some true else evT fn b ρ := by rw [evT]
@[simp] theorem evT_not {a : E} : evT fn (.not a) ρ = (evT fn a ρ).map (!·) := by rw [evT]
@[simp] theorem evT_int {i : Int} : evT fn (.int i) ρ = some (i != 0) := by rw [evT]
@[simp] theorem evT_bl {i : Bool} : evT fn (.bl i) ρ = some i := by rw [evT]
@[simp] theorem evT_var {i : Nat} : evT fn (.var i) ρ = (look ρ i).bind truth := by rw [evT]
@[simp] theorem evT_prim {p : Prim} {es : Es} : evT fn (.prim p es) ρ = (evEs fn es ρ).bind fun rs => (primD p (rs.map seeD)).bind truth := by rw [evT]
@[simp] theorem evT_call {f : Nat} {es : Es} : evT fn (.call f es) ρ = (evEs fn es ρ).bind fun rs => (callR rs (fn f (rs.map seeD))).bind truth := by rw [evT]
noncomputable def andT (r : SV) (k : Option Bool) : Option Bool := match r with
  | .val (.bl true) => k
  | .val (.bl false) => some false
  | _ => none
@[simp] theorem andT_bl {b : Bool} {k : Option Bool} : andT (.val (.bl b)) k = if b then k else some false := by cases b <;> rfl
@[simp] theorem evT_chain {p q : Prim} {a b c : E} : evT fn (.chain p q a b c) ρ = (evE fn a ρ).bind fun x => (evE fn b ρ).bind fun y => (primD p [seeD x, seeD y]).bind fun z => andT z ((evE fn c ρ).bind fun w => (primD q [seeD y, seeD w]).bind truth) := by rw [evT]; rfl
@[simp] theorem exS_expr {e : E} : exS fa fuel (.expr e) ρ = (evE (prj fa) e ρ).map fun _ => (.nx, ρ) := by rw [exS]
@[simp] theorem exS_asg {i : Nat} {e : E} : exS fa fuel (.asg i e) ρ = (evE (prj fa) e ρ).bind fun r => if r.lent || !free ρ i then none else some (.nx, ρ.set i (some r)) := by rw [exS]
noncomputable def freeS : Option (Option SV) → Bool
  | some (some (.io _)) => false
  | _ => true
@[simp] theorem free_eq {i : Nat} : free ρ i = freeS ρ[i]? := by
  unfold free freeS
  rcases h : ρ[i]? with _ | _ | (d | ⟨o, d⟩ | d) <;> rfl
@[simp] theorem freeS_none : freeS none = true := id rfl
@[simp] theorem freeS_no : freeS (some none) = true := id rfl
@[simp] theorem freeS_val {d : D} : freeS (some (some (.val d))) = true := id rfl
@[simp] theorem freeS_obj {o : Bool} {d : D} : freeS (some (some (.obj o d))) = true := id rfl
noncomputable def movS (ρ : Env) (i j : Nat) : Option (Option SV) → Option (Fl × Env)
  | some (some (.val d)) => some (.nx, ρ.set i (some (.val d)))
  | some (some (.obj _ d)) => some (.nx, (ρ.set j (some (.val d))).set i (some (.val d)))
  | _ => none
@[simp] theorem movS_val {i j : Nat} {d : D} : movS ρ i j (some (some (.val d))) = some (.nx, ρ.set i (some (.val d))) := id rfl
@[simp] theorem movS_lis {i j : Nat} {o : Bool} {d : D} : movS ρ i j (some (some (.obj o d))) = some (.nx, (ρ.set j (some (.val d))).set i (some (.val d))) := id rfl
@[simp] theorem exS_mov {i j : Nat} : exS fa fuel (.mov i j) ρ = if free ρ i then movS ρ i j ρ[j]? else none := by
  rw [exS]
  rcases h : ρ[j]? with _ | _ | (d | ⟨o, d⟩ | d) <;> rfl
noncomputable def frzS (ρ : Env) (j : Nat) : Option (Option SV) → Option (List D × Env)
  | some (some (.val d)) => (seqOf d).map fun l => (l, ρ)
  | some (some (.obj _ (.lst ds))) => some (ds, ρ.set j (some (.val (.lst ds))))
  | _ => none
@[simp] theorem frzS_val {j : Nat} {d : D} : frzS ρ j (some (some (.val d))) = (seqOf d).map fun l => (l, ρ) := id rfl
@[simp] theorem frzS_lis {j : Nat} {o : Bool} {ds : List D} : frzS ρ j (some (some (.obj o (.lst ds)))) = some (ds, ρ.set j (some (.val (.lst ds)))) := id rfl
@[simp] theorem freeze_eq {j : Nat} : freeze ρ j = frzS ρ j ρ[j]? := by
  unfold freeze frzS
  rcases h : ρ[j]? with _ | _ | (d | ⟨o, d⟩ | d) <;> rfl
@[simp] theorem seqOf_tup {l : List D} : seqOf (.tup l) = some l := id rfl
@[simp] theorem seqOf_lst {l : List D} : seqOf (.lst l) = some l := id rfl
noncomputable def appV (ρ : Env) (i : Nat) (x : SV) (r : Option SV) : Option D → Option (Fl × Env)
  | some (.lst ds) => r.bind fun r => (toD r).bind fun d => if ds.length < line then some (.nx, ρ.set i (some (x.put (.lst (ds ++ [d]))))) else none
  | _ => none
noncomputable def appS (ρ : Env) (i : Nat) (r : Option SV) : Option (Option SV) → Option (Fl × Env)
  | some (some x) => appV ρ i x r x.cell
  | _ => none
@[simp] theorem appS_lis {i : Nat} {r : Option SV} {ds : List D} : appS ρ i r (some (some (.obj true (.lst ds)))) = r.bind fun r => (toD r).bind fun d => if ds.length < line then some (.nx, ρ.set i (some (.obj true (.lst (ds ++ [d]))))) else none := id rfl
@[simp] theorem exS_app {i : Nat} {e : E} : exS fa fuel (.app i e) ρ = appS ρ i (evE (prj fa) e ρ) ρ[i]? := by
  rw [exS]
  rcases h : ρ[i]? with _ | _ | (d | ⟨_ | _, d⟩ | d)
  · rfl
  · rfl
  · rfl
  · rfl
  · cases d <;> rfl
  · cases d <;> rfl
noncomputable def dsetV (ρ : Env) (i : Nat) (x : SV) (rk rv : Option SV) : Option D → Option (Fl × Env)
  | some (.dct t ks vs) => rv.bind fun r => (toD r).bind fun d => rk.bind fun r => (toD r).bind fun a => if isKey t a && decide (ks.length < line) then some (.nx, ρ.set i (some (x.put (dput t ks vs a d)))) else none
  | _ => none
noncomputable def dsetS (ρ : Env) (i : Nat) (rk rv : Option SV) : Option (Option SV) → Option (Fl × Env)
  | some (some x) => dsetV ρ i x rk rv x.cell
  | _ => none
@[simp] theorem dsetS_obj {i : Nat} {rk rv : Option SV} {t : Bool} {ks vs : List D} : dsetS ρ i rk rv (some (some (.obj true (.dct t ks vs)))) = rv.bind fun r => (toD r).bind fun d => rk.bind fun r => (toD r).bind fun a => if isKey t a && decide (ks.length < line) then some (.nx, ρ.set i (some (.obj true (dput t ks vs a d)))) else none := id rfl
@[simp] theorem dsetS_io {i : Nat} {rk rv : Option SV} {t : Bool} {ks vs : List D} : dsetS ρ i rk rv (some (some (.io (.dct t ks vs)))) = rv.bind fun r => (toD r).bind fun d => rk.bind fun r => (toD r).bind fun a => if isKey t a && decide (ks.length < line) then some (.nx, ρ.set i (some (.io (dput t ks vs a d)))) else none := id rfl
@[simp] theorem exS_dset {i : Nat} {k v : E} : exS fa fuel (.dset i k v) ρ = dsetS ρ i (evE (prj fa) k ρ) (evE (prj fa) v ρ) ρ[i]? := by
  rw [exS]
  rcases h : ρ[i]? with _ | _ | (d | ⟨_ | _, d⟩ | d)
  · rfl
  · rfl
  · rfl
  · rfl
  · cases d <;> rfl
  · cases d <;> rfl
theorem exS_forE {i j : Nat} {src : E} {body : Ss} : exS fa fuel (.forE i j src body) ρ = (evE (prj fa) src ρ).bind fun r => if !free ρ i || !free ρ j then none else (enumD r).bind fun ds => forLU i j (exSs fa fuel body) ds ρ := by rw [exS]
@[simp] theorem exS_unp3 {i j k : Nat} {e : E} : exS fa fuel (.unp3 i j k e) ρ = (evE (prj fa) e ρ).bind (unp3D ρ i j k) := by rw [exS]
@[simp] theorem exS_dupd {i j : Nat} : exS fa fuel (.dupd i j) ρ = dupdD ρ i j := by rw [exS]
@[simp] theorem exS_exprM {m : M} : exS fa fuel (.exprM m) ρ = (evM fa m ρ).map fun x => (.nx, x.2) := by rw [exS]
@[simp] theorem exS_asgM {i : Nat} {m : M} : exS fa fuel (.asgM i m) ρ = (evM fa m ρ).bind fun x => if x.1.lent || !free x.2 i then none else some (.nx, x.2.set i (some (.val (seeD x.1)))) := by rw [exS]
@[simp] theorem exS_ifO {c : E} {m : M} {a b : Ss} : exS fa fuel (.ifO c m a b) ρ = (evT (prj fa) c ρ).bind fun k => if k then exSs fa fuel a ρ else (evM fa m ρ).bind fun x => (truth x.1).bind fun k => if k then exSs fa fuel a x.2 else exSs fa fuel b x.2 := by rw [exS]
noncomputable def callMR (ρ : Env) (xs : List AV) : Ans → Option (SV × Env)
  | .ok r outs => if r.fine && outs.all plainO then (putO ρ xs outs).map fun ρ' => (r, ρ') else none
  | .ex _ => none
@[simp] theorem callMR_ok {xs : List AV} {r : SV} {outs : List D} : callMR ρ xs (.ok r outs) = if r.fine && outs.all plainO then (putO ρ xs outs).map fun ρ' => (r, ρ') else none := id rfl
@[simp] theorem evM_call {f : Nat} {ma : MA} : evM fa (.call f ma) ρ = (evMA (prj fa) ma ρ).bind fun xs => (fa f (xs.map seeA)).bind (callMR ρ xs) := by rw [evM]; rfl
noncomputable def opMR (p : Prim) (k : Option (SV × Env)) : SV → Option (SV × Env)
  | .val d => if plain d then k.bind fun y => (primD p [d, seeD y.1]).map fun z => (z, y.2) else none
  | _ => none
@[simp] theorem opMR_val {p : Prim} {k : Option (SV × Env)} {d : D} : opMR p k (.val d) = if plain d then k.bind fun y => (primD p [d, seeD y.1]).map fun z => (z, y.2) else none := id rfl
@[simp] theorem evM_op {p : Prim} {a : E} {m : M} : evM fa (.op p a m) ρ = (evE (prj fa) a ρ).bind (opMR p (evM fa m ρ)) := by rw [evM]; rfl
@[simp] theorem evMA_nil : evMA fn .nil ρ = some [] := by rw [evMA]
@[simp] theorem evMA_e {c : E} {r : MA} : evMA fn (.e c r) ρ = (evE fn c ρ).bind fun x => (avOf x).bind fun a => (evMA fn r ρ).map (a :: ·) := by rw [evMA]
noncomputable def cellS : Option (Option SV) → Option D
  | some (some x) => x.cell
  | _ => none
@[simp] theorem cellAtS_eq {i : Nat} : cellAtS ρ i = cellS ρ[i]? := by
  unfold cellAtS cellS
  rcases h : ρ[i]? with _ | _ | (d | ⟨_ | _, d⟩ | d) <;> rfl
@[simp] theorem cellS_obj {d : D} : cellS (some (some (.obj true d))) = some d := id rfl
@[simp] theorem cellS_io {d : D} : cellS (some (some (.io d))) = some d := id rfl
@[simp] theorem evMA_s {i : Nat} {r : MA} : evMA fn (.s i r) ρ = (cellAtS ρ i).bind fun d => if isDct d then (evMA fn r ρ).map (.s i d :: ·) else none := by rw [evMA]
@[simp] theorem evMA_n {t : Bool} {r : MA} : evMA fn (.n t r) ρ = (evMA fn r ρ).map (.n t :: ·) := by rw [evMA]
@[simp] theorem putO_nil : putO ρ [] [] = some ρ := id rfl
@[simp] theorem putO_s {i : Nat} {d d' : D} {r : List AV} {ds : List D} : putO ρ (.s i d :: r) (d' :: ds) = putO (putS ρ i d') r ds := by rw [putO]
@[simp] theorem putO_n {t : Bool} {d' : D} {r : List AV} {ds : List D} : putO ρ (.n t :: r) (d' :: ds) = putO ρ r ds := by rw [putO]
@[simp] theorem putO_e {d : D} {r : List AV} {ds : List D} : putO ρ (.e d :: r) ds = putO ρ r ds := by rw [putO]
@[simp] theorem putO_l {d : List D} {r : List AV} {ds : List D} : putO ρ (.l d :: r) ds = putO ρ r ds := by rw [putO]
noncomputable def putSS (ρ : Env) (i : Nat) (d : D) : Option (Option SV) → Env
  | some (some x) => ρ.set i (some (x.put d))
  | _ => ρ
@[simp] theorem putS_eq {i : Nat} {d : D} : putS ρ i d = putSS ρ i d ρ[i]? := by
  unfold putS putSS
  rcases h : ρ[i]? with _ | _ | (d | ⟨_ | _, d⟩ | d) <;> rfl
@[simp] theorem putSS_obj {i : Nat} {d d0 : D} : putSS ρ i d (some (some (.obj true d0))) = ρ.set i (some (.obj true d)) := id rfl
@[simp] theorem putSS_io {i : Nat} {d d0 : D} : putSS ρ i d (some (some (.io d0))) = ρ.set i (some (.io d)) := id rfl
@[simp] theorem seeA_e {d : D} : seeA (.e d) = d := id rfl
@[simp] theorem seeA_l {d : List D} : seeA (.l d) = .lst d := id rfl
@[simp] theorem seeA_s {i : Nat} {d : D} : seeA (.s i d) = d := id rfl
@[simp] theorem seeA_n {t : Bool} : seeA (.n t) = .dct t [] [] := id rfl
@[simp] theorem avOf_tup {l : List D} : avOf (.val (.tup l)) = if plain (.tup l) then some (.e (.tup l)) else none := id rfl
@[simp] theorem avOf_int {i : Int} : avOf (.val (.int i)) = some (.e (.int i)) := by simp [avOf, plain]
@[simp] theorem avOf_bl {i : Bool} : avOf (.val (.bl i)) = some (.e (.bl i)) := by simp [avOf, plain]
@[simp] theorem avOf_lst {l : List D} : avOf (.val (.lst l)) = if plains l then some (.l l) else none := id rfl
@[simp] theorem avOf_obj {o : Bool} {l : List D} : avOf (.obj o (.lst l)) = if plains l then some (.l l) else none := id rfl
@[simp] theorem isDct_dct {t : Bool} {ks vs : List D} : isDct (.dct t ks vs) = plains vs := id rfl
@[simp] theorem plainO_dct {t : Bool} {ks vs : List D} : plainO (.dct t ks vs) = plains vs := id rfl
@[simp] theorem plainO_lst {vs : List D} : plainO (.lst vs) = plains vs := id rfl
@[simp] theorem fine_val {d : D} : SV.fine (.val d) = plain d := id rfl
@[simp] theorem fine_obj {d : D} : SV.fine (.obj true d) = plainO d := id rfl
@[simp] theorem exS_ret {e : E} : exS fa fuel (.ret e) ρ = (evE (prj fa) e ρ).bind fun r => if r.lent then none else some (.rt r, ρ) := by rw [exS]
noncomputable def retS (ρ : Env) (i : Nat) : Option (Option SV) → Option (Fl × Env)
  | some (some (.val d)) => some (.rt (.val d), ρ)
  | some (some (.obj _ d)) => some (.rt (.obj true d), ρ.set i none)
  | _ => none
@[simp] theorem retS_val {i : Nat} {d : D} : retS ρ i (some (some (.val d))) = some (.rt (.val d), ρ) := id rfl
@[simp] theorem retS_lis {i : Nat} {o : Bool} {d : D} : retS ρ i (some (some (.obj o d))) = some (.rt (.obj true d), ρ.set i none) := id rfl
@[simp] theorem exS_retV {i : Nat} : exS fa fuel (.retV i) ρ = retS ρ i ρ[i]? := by
  rw [exS]
  rcases h : ρ[i]? with _ | _ | (d | ⟨o, d⟩ | d) <;> rfl
@[simp] theorem exS_retN : exS fa fuel .retN ρ = some (.rt (.val .non), ρ) := by rw [exS]
@[simp] theorem exS_ifs {c : E} {a b : Ss} : exS fa fuel (.ifs c a b) ρ = (evT (prj fa) c ρ).bind fun k => if k then exSs fa fuel a ρ else exSs fa fuel b ρ := by rw [exS]
theorem exS_for {i : Nat} {g : Bool} {src : Es} {body : Ss} : exS fa fuel (.for_ i g src body) ρ = (evEs (prj fa) src ρ).bind fun rs => if rs.any SV.lent || !free ρ i then none else (itemsOf g rs).bind fun ds => forL i (exSs fa fuel body) ds ρ := by rw [exS]
noncomputable def frz1S (ρ : Env) (j : Nat) : Option (Option SV) → Env
  | some (some (.obj true d)) => ρ.set j (some (.val d))
  | _ => ρ
@[simp] theorem frz1_eq {j : Nat} : frz1 ρ j = frz1S ρ j ρ[j]? := by
  unfold frz1 frz1S
  rcases h : ρ[j]? with _ | _ | (d | ⟨_ | _, d⟩ | d) <;> rfl
@[simp] theorem frz1S_val {j : Nat} {d : D} : frz1S ρ j (some (some (.val d))) = ρ := id rfl
@[simp] theorem frz1S_obj {j : Nat} {d : D} : frz1S ρ j (some (some (.obj true d))) = ρ.set j (some (.val d)) := id rfl
@[simp] theorem exS_frz {js : List Nat} {s : S} : exS fa fuel (.frz js s) ρ = exS fa fuel s (js.foldl frz1 ρ) := by rw [exS]
@[simp] theorem exS_brk : exS fa fuel .brk ρ = some (.br, ρ) := by rw [exS]
@[simp] theorem exS_cnt : exS fa fuel .cnt ρ = some (.ct, ρ) := by rw [exS]
@[simp] theorem exS_pass : exS fa fuel .pass ρ = some (.nx, ρ) := by rw [exS]
@[simp] theorem exS_stop : exS fa fuel .stop ρ = none := by rw [exS]
@[simp] theorem exSs_nil : exSs fa fuel .nil ρ = some (.nx, ρ) := by rw [exSs]
noncomputable def andThen (x : Fl × Env) (k : Env → Option (Fl × Env)) : Option (Fl × Env) := match x.1 with
  | .nx => k x.2
  | _ => some x
@[simp] theorem andThen_nx {ρ : Env} {k : Env → Option (Fl × Env)} : andThen (.nx, ρ) k = k ρ := id rfl
@[simp] theorem andThen_br {ρ : Env} {k : Env → Option (Fl × Env)} : andThen (.br, ρ) k = some (.br, ρ) := id rfl
@[simp] theorem andThen_ct {ρ : Env} {k : Env → Option (Fl × Env)} : andThen (.ct, ρ) k = some (.ct, ρ) := id rfl
@[simp] theorem andThen_rt {ρ : Env} {r : SV} {k : Env → Option (Fl × Env)} : andThen (.rt r, ρ) k = some (.rt r, ρ) := id rfl
@[simp] theorem exSs_cons {s : S} {ss : Ss} : exSs fa fuel (.cons s ss) ρ = (exS fa fuel s ρ).bind fun x => andThen x (exSs fa fuel ss) := by
  rw [exSs]; rfl
noncomputable def endOf : Option (Fl × Env) → Option SV
  | some (.rt r, _) => some r
  | some (.nx, _) => some (.val .non)
  | _ => none
@[simp] theorem endOf_rt {r : SV} {ρ : Env} : endOf (some (.rt r, ρ)) = some r := id rfl
@[simp] theorem endOf_nx {ρ : Env} : endOf (some (.nx, ρ)) = some (.val .non) := id rfl
@[simp] theorem endOf_none : endOf none = none := id rfl
@[simp] theorem endOf_ite {c : Prop} [Decidable c] {a b : Option (Fl × Env)} : endOf (if c then a else b) = if c then endOf a else endOf b := by split <;> rfl
end
noncomputable def lookS : Option (Option SV) → Option SV
  | some (some (.val d)) => some (.val d)
  | some (some (.obj _ d)) => some (.obj false d)
  | some (some (.io d)) => some (.obj false d)
  | _ => none
@[simp] theorem look_eq {ρ : Env} {i : Nat} : look ρ i = lookS ρ[i]? := by
  unfold look lookS
  rcases h : ρ[i]? with _ | _ | (d | ⟨o, d⟩ | d) <;> rfl
@[simp] theorem lookS_val {d : D} : lookS (some (some (.val d))) = some (.val d) := id rfl
@[simp] theorem lookS_lis {o : Bool} {d : D} : lookS (some (some (.obj o d))) = some (.obj false d) := id rfl
@[simp] theorem lookS_io {d : D} : lookS (some (some (.io d))) = some (.obj false d) := id rfl
@[simp] theorem lookS_none : lookS (some none) = none := id rfl
@[simp] theorem seeD_val {d : D} : seeD (.val d) = d := id rfl
@[simp] theorem seeD_lis {o : Bool} {d : D} : seeD (.obj o d) = d := id rfl
@[simp] theorem toD_val {d : D} : toD (.val d) = some d := id rfl
@[simp] theorem toD_lis {d : D} : toD (.obj true d) = some d := id rfl
@[simp] theorem toDs_nil : toDs [] = some [] := id rfl
@[simp] theorem toDs_cons {r : SV} {rs : List SV} : toDs (r :: rs) = (toD r).bind fun d => (toDs rs).map (d :: ·) := id rfl
@[simp] theorem lent_val {d : D} : SV.lent (.val d) = false := id rfl
@[simp] theorem lent_own {d : D} : SV.lent (.obj true d) = false := id rfl
@[simp] theorem lent_see {d : D} : SV.lent (.obj false d) = true := id rfl
@[simp] theorem okInt_eq {i : Int} : okInt i = some (.val (.int i)) := id rfl
@[simp] theorem okBl_eq {i : Bool} : okBl i = some (.val (.bl i)) := id rfl
@[simp] theorem truth_bl {b : Bool} : truth (.val (.bl b)) = some b := id rfl
@[simp] theorem truth_int {i : Int} : truth (.val (.int i)) = some (i != 0) := id rfl
@[simp] theorem truth_non : truth (.val .non) = some false := id rfl
@[simp] theorem truth_tup {l : List D} : truth (.val (.tup l)) = some (!l.isEmpty) := id rfl
@[simp] theorem truth_lst {l : List D} : truth (.val (.lst l)) = some (!l.isEmpty) := id rfl
@[simp] theorem truth_lis {o : Bool} {l : List D} : truth (.obj o (.lst l)) = some (!l.isEmpty) := id rfl
theorem callR_own {rs : List SV} {r : Option SV} (h : rs.any SV.lent = false) : callR rs r = r := by
  unfold callR; rw [h]; cases r <;> rfl
theorem callR_plain {rs : List SV} {x : SV} (h : x.plain = true) : callR rs (some x) = some x := by
  unfold callR; simp [h]
@[simp] theorem callR_nolent {rs : List SV} {x : Option SV} (h : rs.any SV.lent = false) : callR rs x = x := callR_own h
@[simp] theorem callR_pl {rs : List SV} {x : SV} (h : x.plain = true) : callR rs (some x) = some x := callR_plain h
@[simp] theorem plainS_val {d : D} : SV.plain (.val d) = plain d := id rfl
@[simp] theorem plainS_lis {o : Bool} {d : D} : SV.plain (.obj o d) = plainO d := id rfl
@[simp] theorem plain_int {i : Int} : plain (.int i) = true := by simp [plain]
@[simp] theorem plain_bl {i : Bool} : plain (.bl i) = true := by simp [plain]
@[simp] theorem plain_non : plain .non = true := by simp [plain]
@[simp] theorem plain_str {i : Str} : plain (.str i) = true := by simp [plain]
@[simp] theorem plain_tup {l : List D} : plain (.tup l) = plains l := by rw [plain]
@[simp] theorem plain_lst {l : List D} : plain (.lst l) = false := by rw [plain]
@[simp] theorem plain_dct {t : Bool} {a b : List D} : plain (.dct t a b) = false := by rw [plain]
@[simp] theorem plains_nil : plains [] = true := by rw [plains]
@[simp] theorem plains_cons {x : D} {xs : List D} : plains (x :: xs) = (plain x && plains xs) := by rw [plains]
@[simp] theorem prj_callA {P : Nat → Option Fn} {fuel n : Nat} : prj (callA P fuel n) = callN P fuel n := id rfl
theorem args0_nil : ∀ (k : Nat) (ds : List D), args0 [] k ds = ds.map fun d => some (.val d)
  | _, [] => rfl
  | k, d :: r => by simp [args0, args0_nil (k + 1) r]
theorem prj_end (x : Option (Fl × Env)) : (match endA [] x with | some (.ok r []) => some r | _ => none) = endOf x := by
  rcases x with _ | ⟨_ | _ | _ | r, ρ⟩ <;> rfl
theorem callN_succ {P : Nat → Option Fn} {fuel n i : Nat} {F : Fn} {ds : List D} (h : P i = some F) (hl : ds.length = F.np) (hio : F.io = []) (hx : F.xb = none := by rfl) :
    callN P fuel (n + 1) i ds = endOf (exSs (callA P fuel n) fuel F.body (ds.map (fun d => some (.val d)) ++ List.replicate (F.nl - F.np) none)) := by
  unfold callN prj
  rw [callA, h]
  simp only [Option.bind_some, if_pos hl, hio, args0_nil, hx]
  exact prj_end _
@[simp] theorem p_add {a b : Int} : primD .add [.int a, .int b] = some (.val (.int (a + b))) := id rfl
@[simp] theorem p_sub {a b : Int} : primD .sub [.int a, .int b] = some (.val (.int (a - b))) := id rfl
theorem p_mulR {a b : Int} (h : -(2 ^ 64) < b ∧ b < 2 ^ 64) : primD .mul [.int a, .int b] = some (.val (.int (a * b))) := by simp only [primD, pMul, if_pos (Or.inr h : (-(2 ^ 64) < a ∧ a < 2 ^ 64) ∨ _), okInt]
theorem p_mod {a b : Int} (h : 0 < b) : primD .mod [.int a, .int b] = some (.val (.int (a % b))) := by simp only [primD, pMod, if_pos h, okInt]
@[simp] theorem p_neg {a : Int} : primD .neg [.int a] = some (.val (.int (-a))) := id rfl
theorem p_eq {a b : D} (h : shal 8 a = true) (h' : shal 8 b = true) : primD .eq [a, b] = some (.val (.bl (eqD a b))) := by simp [primD, pEq, h, h']
theorem p_ne {a b : D} (h : shal 8 a = true) (h' : shal 8 b = true) : primD .ne [a, b] = some (.val (.bl (!eqD a b))) := by simp [primD, pNe, h, h']
@[simp] theorem p_eqI {a b : Int} : primD .eq [.int a, .int b] = some (.val (.bl (a == b))) := by rw [p_eq rfl rfl, eqD]
@[simp] theorem p_neI {a b : Int} : primD .ne [.int a, .int b] = some (.val (.bl (a != b))) := by rw [p_ne rfl rfl, eqD]; rfl
@[simp] theorem p_lt {a b : Int} : primD .lt [.int a, .int b] = some (.val (.bl (decide (a < b)))) := id rfl
@[simp] theorem p_le {a b : Int} : primD .le [.int a, .int b] = some (.val (.bl (decide (a ≤ b)))) := id rfl
@[simp] theorem p_gt {a b : Int} : primD .gt [.int a, .int b] = some (.val (.bl (decide (b < a)))) := id rfl
@[simp] theorem p_ge {a b : Int} : primD .ge [.int a, .int b] = some (.val (.bl (decide (b ≤ a)))) := id rfl
@[simp] theorem p_isN {d : D} : primD .isN [d] = some (.val (.bl (isNon d))) := id rfl
@[simp] theorem p_notN {d : D} : primD .notN [d] = some (.val (.bl (!isNon d))) := id rfl
@[simp] theorem p_lenT {l : List D} : primD .len [.tup l] = some (.val (.int l.length)) := id rfl
@[simp] theorem p_lenL {l : List D} : primD .len [.lst l] = some (.val (.int l.length)) := id rfl
@[simp] theorem p_abs {i : Int} : primD .abs [.int i] = some (.val (.int (if i < 0 then -i else i))) := id rfl
@[simp] theorem p_min2 {i j : Int} : primD .min2 [.int i, .int j] = some (.val (.int (if j < i then j else i))) := id rfl
@[simp] theorem p_max2 {i j : Int} : primD .max2 [.int i, .int j] = some (.val (.int (if j > i then j else i))) := id rfl
theorem p_maxL {n : Int} {r : List Int} : primD .maxL [.lst ((n :: r).map D.int)] = some (.val (.int (r.foldl max n))) := by
  have : ∀ l : List Int, ints? (l.map D.int) = some l := fun l => by induction l with
    | nil => rfl
    | cons x l ih => simp [ints?, ih]
  simp only [primD, pMaxL, this, Option.bind_some, okInt]
@[simp] theorem p_intOfB {b : Bool} : primD .intOf [.bl b] = some (.val (.int (if b then 1 else 0))) := id rfl
@[simp] theorem p_intOfI {b : Int} : primD .intOf [.int b] = some (.val (.int b)) := id rfl
@[simp] theorem p_toListT {l : List D} : primD .toList [.tup l] = some (.obj true (.lst l)) := id rfl
@[simp] theorem p_toListL {l : List D} : primD .toList [.lst l] = some (.obj true (.lst l)) := id rfl
@[simp] theorem p_toTupT {l : List D} : primD .toTup [.tup l] = some (.val (.tup l)) := id rfl
@[simp] theorem p_toTupL {l : List D} : primD .toTup [.lst l] = some (.val (.tup l)) := id rfl
@[simp] theorem p_inst {t : Ty} {d : D} : primD (.inst t) [d] = some (.val (.bl (hasTy t d))) := id rfl
theorem p_idxT {l : List D} {i : Int} : primD .idx [.tup l, .int i] = (atI l i).map .val := rfl
theorem p_idxL {l : List D} {i : Int} : primD .idx [.lst l, .int i] = (atI l i).map .val := rfl
theorem atI_nat {α : Type} {l : List α} {k : Nat} (h : k < l.length) : atI l (k : Int) = some l[k] := by
  unfold atI ixN
  rw [if_pos (by omega), if_pos (by omega)]
  simp [h]
@[simp] theorem p_idx2_0 {a b : D} : primD .idx [.tup [a, b], .int 0] = some (.val a) := id rfl
@[simp] theorem p_idx2_1 {a b : D} : primD .idx [.tup [a, b], .int 1] = some (.val b) := id rfl
@[simp] theorem hasTy_bb {b : Bool} : hasTy .bool (.bl b) = true := id rfl
@[simp] theorem hasTy_bi {b : Int} : hasTy .bool (.int b) = false := id rfl
@[simp] theorem hasTy_ii {b : Int} : hasTy .int (.int b) = true := id rfl
@[simp] theorem hasTy_tt {l : List D} : hasTy .tuple (.tup l) = true := id rfl
@[simp] theorem hasTy_ll {l : List D} : hasTy .list (.lst l) = true := id rfl
@[simp] theorem isNon_non : isNon .non = true := id rfl
@[simp] theorem isNon_int {i : Int} : isNon (.int i) = false := id rfl
@[simp] theorem isNon_tup {l : List D} : isNon (.tup l) = false := id rfl
@[simp] theorem isNon_lst {l : List D} : isNon (.lst l) = false := id rfl
theorem compL_map {α : Type} {f : α → D} {test : D → Option Bool} {elt : D → Option SV} {t : α → Bool} {e : α → D} : ∀ {xs : List α}, (∀ x ∈ xs, test (f x) = some (t x)) → (∀ x ∈ xs, t x = true → (elt (f x)).bind toD = some (e x)) →
    compL test elt (xs.map f) = some ((xs.filter t).map e)
  | [], _, _ => rfl
  | d :: r, h1, h2 => by
    have ih := compL_map (xs := r) (fun x hx => h1 x (List.mem_cons_of_mem _ hx)) (fun x hx => h2 x (List.mem_cons_of_mem _ hx))
    rw [List.map_cons, compL, h1 d List.mem_cons_self]
    simp only [Option.bind_some]
    cases ht : t d with
    | false => simp [ih, ht]
    | true =>
      have h3 := h2 d List.mem_cons_self ht
      rw [Option.bind_eq_some_iff] at h3
      obtain ⟨x, e1, e2⟩ := h3
      simp [ih, ht, e1, e2]
theorem comp_rule {fn : Nat → List D → Option SV} {ρ : Env} {g : Bool} {src : Es} {cond elt : E} {rs : List SV} {α : Type} {f : α → D} {xs : List α} (t : α → Bool) (e : α → D) (h : evEs fn src ρ = some rs) (hi : itemsOf g rs = some (xs.map f)) (hl : xs.length ≤ line)
    (ht : ∀ x ∈ xs, evT fn cond (some (.val (f x)) :: ρ) = some (t x)) (he : ∀ x ∈ xs, t x = true → (evE fn elt (some (.val (f x)) :: ρ)).bind toD = some (e x)) :
    evE fn (.comp g src cond elt) ρ = some (.obj true (.lst ((xs.filter t).map e))) := by
  rw [evE_comp, h]
  simp only [Option.bind_some, hi, List.length_map, if_pos hl]
  rw [compL_map ht he]; rfl
theorem comp_rule0 {fn : Nat → List D → Option SV} {ρ : Env} {g : Bool} {src : Es} {elt : E} {rs : List SV} {α : Type} {f : α → D} {xs : List α} (e : α → D) (h : evEs fn src ρ = some rs) (hi : itemsOf g rs = some (xs.map f)) (hl : xs.length ≤ line)
    (he : ∀ x ∈ xs, (evE fn elt (some (.val (f x)) :: ρ)).bind toD = some (e x)) :
    evE fn (.comp g src (.bl true) elt) ρ = some (.obj true (.lst (xs.map e))) := by
  have := comp_rule (fun _ => true) e h hi hl (fun _ _ => evT_bl) (fun x hx _ => he x hx)
  have e2 : xs.filter (fun _ => true) = xs := List.filter_eq_self.mpr fun _ _ => rfl
  rwa [e2] at this
theorem forL_inv {i : Nat} {body : Env → Option (Fl × Env)} (I : List D → Env → Prop) {ds : List D} : ∀ {post pre : List D} {ρ : Env}, ds = pre ++ post → I pre ρ →
    (∀ pre d post ρ, ds = pre ++ d :: post → I pre ρ → ∃ fl ρ', body (ρ.set i (some (.val d))) = some (fl, ρ') ∧ (fl = .nx ∨ fl = .ct) ∧ I (pre ++ [d]) ρ') →
    ∃ ρ', forL i body post ρ = some (.nx, ρ') ∧ I ds ρ'
  | [], pre, ρ, e, h, _ => ⟨ρ, rfl, by rw [e]; simpa using h⟩
  | d :: post, pre, ρ, e, h, st => by
    obtain ⟨fl, ρ1, e1, e2, h1⟩ := st pre d post ρ e h
    obtain ⟨ρ', e3, h3⟩ := forL_inv I (ds := ds) (post := post) (pre := pre ++ [d]) (ρ := ρ1) (by simp [e]) h1 st
    refine ⟨ρ', ?_, h3⟩
    rw [forL, e1]
    simp only [Option.bind_some]
    rcases e2 with rfl | rfl <;> exact e3
theorem forL_idx {i : Nat} {body : Env → Option (Fl × Env)} (I : Nat → Env → Prop) {ds : List D} {ρ : Env} (h0 : I 0 ρ)
    (st : ∀ k ρ (hk : k < ds.length), I k ρ → ∃ fl ρ', body (ρ.set i (some (.val ds[k]))) = some (fl, ρ') ∧ (fl = .nx ∨ fl = .ct) ∧ I (k + 1) ρ') :
    ∃ ρ', forL i body ds ρ = some (.nx, ρ') ∧ I ds.length ρ' := by
  refine forL_inv (fun pre ρ => I pre.length ρ) (ds := ds) (post := ds) (pre := []) rfl h0 fun pre d post ρ e h => ?_
  subst e
  have hk : pre.length < (pre ++ d :: post).length := by simp
  obtain ⟨fl, ρ', h1, h2, h3⟩ := st pre.length ρ hk h
  refine ⟨fl, ρ', ?_, h2, by simpa using h3⟩
  rw [← h1]; simp
theorem forL_map {i : Nat} {body : Env → Option (Fl × Env)} {α : Type} {f : α → D} {xs : List α} (I : Nat → Env → Prop) {ρ : Env} (h0 : I 0 ρ)
    (st : ∀ k ρ (hk : k < xs.length), I k ρ → ∃ fl ρ', body (ρ.set i (some (.val (f xs[k])))) = some (fl, ρ') ∧ (fl = .nx ∨ fl = .ct) ∧ I (k + 1) ρ') :
    ∃ ρ', forL i body (xs.map f) ρ = some (.nx, ρ') ∧ I xs.length ρ' := by
  have := forL_idx (i := i) (body := body) I (ds := xs.map f) (ρ := ρ) h0 fun k ρ hk h => by
    obtain ⟨fl, ρ', h1, h2⟩ := st k ρ (by simpa using hk) h
    exact ⟨fl, ρ', by rw [List.getElem_map]; exact h1, h2⟩
  simpa using this
theorem forL_rng {i : Nat} {body : Env → Option (Fl × Env)} (I : Nat → Env → Prop) {a : Int} {m : Nat} {ρ : Env} (h0 : I 0 ρ)
    (st : ∀ k ρ, k < m → I k ρ → ∃ fl ρ', body (ρ.set i (some (.val (.int (a + (k : Int)))))) = some (fl, ρ') ∧ (fl = .nx ∨ fl = .ct) ∧ I (k + 1) ρ') :
    ∃ ρ', forL i body ((List.range m).map fun (k : Nat) => D.int (a + (k : Int))) ρ = some (.nx, ρ') ∧ I m ρ' := by
  have := forL_map (i := i) (body := body) (f := fun (k : Nat) => D.int (a + (k : Int))) (xs := List.range m) I (ρ := ρ) h0 fun k ρ hk h => by
    obtain ⟨fl, ρ', h1, h2⟩ := st k ρ (by simpa using hk) h
    exact ⟨fl, ρ', by rw [List.getElem_range]; exact h1, h2⟩
  simpa using this
section
variable {fa : Nat → List D → Option Ans} {fuel : Nat} {ρ : Env}
noncomputable def thenX (k : Env → Option (FlX × Env)) : FlX × Env → Option (FlX × Env)
  | (.fl .nx, ρ) => k ρ
  | x => some x
@[simp] theorem thenX_nx {k : Env → Option (FlX × Env)} : thenX k (.fl .nx, ρ) = k ρ := id rfl
@[simp] theorem thenX_rt {k : Env → Option (FlX × Env)} {r : SV} : thenX k (.fl (.rt r), ρ) = some (.fl (.rt r), ρ) := id rfl
@[simp] theorem thenX_ex {k : Env → Option (FlX × Env)} {c : Nat} : thenX k (.ex c, ρ) = some (.ex c, ρ) := id rfl
@[simp] theorem exTs_nil : exTs fa fuel .nil ρ = some (.fl .nx, ρ) := by rw [exTs]
@[simp] theorem exTs_cons {t : T} {ts : Ts} : exTs fa fuel (.cons t ts) ρ = (exT fa fuel t ρ).bind (thenX (exTs fa fuel ts)) := by
  rw [exTs]
  congr 1
  funext x
  rcases x with ⟨⟨_ | _ | _ | _⟩ | _, _⟩ <;> rfl
@[simp] theorem exT_pl {s : S} : exT fa fuel (.pl s) ρ = (exS fa fuel s ρ).map fun x => (.fl x.1, x.2) := by rw [exT]
@[simp] theorem exT_raise {c : Nat} : exT fa fuel (.raise c) ρ = some (.ex c, ρ) := by rw [exT]
@[simp] theorem exT_stuck : exT fa fuel .stuck ρ = none := by rw [exT]
@[simp] theorem exT_ifs {c : E} {a b : Ts} : exT fa fuel (.ifs c a b) ρ = (evT (prj fa) c ρ).bind fun k => if k then exTs fa fuel a ρ else exTs fa fuel b ρ := by rw [exT]
noncomputable def callXR (ρ : Env) : Ans → Option (FlX × Env)
  | .ok _ [] => some (.fl .nx, ρ)
  | .ex c => some (.ex c, ρ)
  | _ => none
@[simp] theorem callXR_ok {r : SV} : callXR ρ (.ok r []) = some (.fl .nx, ρ) := id rfl
@[simp] theorem callXR_ex {c : Nat} : callXR ρ (.ex c) = some (.ex c, ρ) := id rfl
@[simp] theorem exT_callX {i : Nat} {es : Es} : exT fa fuel (.callX i es) ρ = (ansX fa i es ρ).bind (callXR ρ) := by rw [exT]; rfl
noncomputable def retXR (ρ : Env) : Ans → Option (FlX × Env)
  | .ok r [] => if r.lent then none else some (.fl (.rt r), ρ)
  | .ex c => some (.ex c, ρ)
  | _ => none
@[simp] theorem retXR_ok {r : SV} : retXR ρ (.ok r []) = if r.lent then none else some (.fl (.rt r), ρ) := id rfl
@[simp] theorem retXR_ex {c : Nat} : retXR ρ (.ex c) = some (.ex c, ρ) := id rfl
@[simp] theorem exT_retX {i : Nat} {es : Es} : exT fa fuel (.retX i es) ρ = (ansX fa i es ρ).bind (retXR ρ) := by rw [exT]; rfl
noncomputable def asgXR (k : Nat) (ρ : Env) : Ans → Option (FlX × Env)
  | .ok r [] => if r.lent || !free ρ k then none else some (.fl .nx, ρ.set k (some r))
  | .ex c => some (.ex c, ρ)
  | _ => none
@[simp] theorem asgXR_ex {k c : Nat} : asgXR k ρ (.ex c) = some (.ex c, ρ) := id rfl
@[simp] theorem exT_asgX {k i : Nat} {es : Es} : exT fa fuel (.asgX k i es) ρ = (ansX fa i es ρ).bind (asgXR k ρ) := by rw [exT]; rfl
noncomputable def ifXR (neg : Bool) (a b : Option (FlX × Env)) (ρ : Env) : Ans → Option (FlX × Env)
  | .ok (.val (.bl k)) [] => if k != neg then a else b
  | .ex c => some (.ex c, ρ)
  | _ => none
@[simp] theorem ifXR_ex {neg : Bool} {a b : Option (FlX × Env)} {c : Nat} : ifXR neg a b ρ (.ex c) = some (.ex c, ρ) := id rfl
@[simp] theorem exT_ifX {neg : Bool} {i : Nat} {es : Es} {a b : Ts} : exT fa fuel (.ifX neg i es a b) ρ = (ansX fa i es ρ).bind (ifXR neg (exTs fa fuel a ρ) (exTs fa fuel b ρ) ρ) := by rw [exT]; rfl
noncomputable def tryXR (cs : List Nat) (h : Hd) : FlX × Env → Option (FlX × Env)
  | (.ex c, ρ) => if cs.contains c then hdX c ρ h else none
  | x => some x
@[simp] theorem tryXR_fl {cs : List Nat} {h : Hd} {f : Fl} : tryXR cs h (.fl f, ρ) = some (.fl f, ρ) := id rfl
@[simp] theorem tryXR_ex {cs : List Nat} {h : Hd} {c : Nat} : tryXR cs h (.ex c, ρ) = if cs.contains c then hdX c ρ h else none := id rfl
@[simp] theorem exT_tryX {b : Ts} {k : Nat} {cs : List Nat} {h : Hd} : exT fa fuel (.tryX b k cs h) ρ = (exTs fa fuel b ρ).bind (tryXR cs h) := by
  rw [exT]
  congr 1
  funext x
  rcases x with ⟨_ | _, _⟩ <;> rfl
@[simp] theorem ansX_eq {i : Nat} {es : Es} : ansX fa i es ρ = (evEs (prj fa) es ρ).bind fun rs => if rs.any SV.lent then none else fa i (rs.map seeD) := id rfl
@[simp] theorem endX_rt {r : SV} : endX (some (.fl (.rt r), ρ)) = some (.ok r []) := id rfl
@[simp] theorem endX_nx : endX (some (.fl .nx, ρ)) = some (.ok (.val .non) []) := id rfl
@[simp] theorem endX_ex {c : Nat} : endX (some (.ex c, ρ)) = some (.ex c) := id rfl
end
end L2.LW
namespace LK
open L2.LW
noncomputable def ir0 : Ss := (.cons (.ifs (.or (.prim (.inst .bool) (.cons (.var 0) .nil)) (.not (.prim (.inst .int) (.cons (.var 0) .nil)))) (.cons (.ret (.bl false))
    .nil) .nil)
    (.cons (.ret (.chain .le .le (.var 1) (.var 0) (.var 2)))
    .nil))
noncomputable def ir1 : Ss := (.cons (.ret (.and (.prim (.inst .tuple) (.cons (.var 0) .nil)) (.prim .eq (.cons (.prim .len (.cons (.var 0) .nil)) (.cons (.int 2) .nil)))))
    .nil)
noncomputable def ir2 : Ss := (.cons (.ret (.and (.call 1 (.cons (.var 0) .nil)) (.and (.call 0 (.cons (.prim .idx (.cons (.var 0) (.cons (.int 0) .nil))) (.cons (.int 0) (.cons (.int 7) .nil)))) (.call 0 (.cons (.prim .idx (.cons (.var 0) (.cons (.int 1) .nil))) (.cons (.int 0) (.cons (.int 7) .nil)))))))
    .nil)
noncomputable def ir4 : Ss := (.cons (.ret (.prim .all (.cons (.comp true (.cons (.int 1) (.cons (.prim .len (.cons (.var 0) .nil)) .nil)) (.bl true) (.prim .lt (.cons (.prim .idx (.cons (.var 1) (.cons (.prim .sub (.cons (.var 0) (.cons (.int 1) .nil))) .nil))) (.cons (.prim .idx (.cons (.var 1) (.cons (.var 0) .nil))) .nil)))) .nil)))
    .nil)
noncomputable def ir5 : Ss := (.cons (.ifs (.or (.not (.prim (.inst .tuple) (.cons (.var 0) .nil))) (.not (.chain .le .le (.int 1) (.prim .len (.cons (.var 0) .nil)) (.int 24)))) (.cons (.ret (.bl false))
    .nil) .nil)
    (.cons (.ret (.and (.prim .all (.cons (.comp false (.cons (.var 0) .nil) (.bl true) (.call 2 (.cons (.var 0) .nil))) .nil)) (.call 4 (.cons (.var 0) .nil))))
    .nil))
noncomputable def ir6 : Ss := (.cons (.ifs (.not (.call 5 (.cons (.var 0) .nil))) (.cons .stop
    .nil) .nil)
    (.cons (.retV 0)
    .nil))
noncomputable def ir13 : Ss := (.cons (.ifs (.prim .lt (.cons (.var 1) (.cons (.prim .len (.cons (.var 0) .nil)) .nil))) (.cons (.ret (.prim .idx (.cons (.var 0) (.cons (.var 1) .nil))))
    .nil) .nil)
    (.cons (.ret (.int 0))
    .nil))
noncomputable def ir14 : Ss := (.cons (.ret (.prim .mod (.cons (.prim .mod (.cons (.prim .mul (.cons (.var 0) (.cons (.int 48271) .nil))) (.cons (.var 1) .nil))) (.cons (.var 2) .nil))))
    .nil)
noncomputable def ir15b0 : Ss := (.cons (.asg 12 (.prim .add (.cons (.prim .add (.cons (.call 13 (.cons (.var 0) (.cons (.prim .add (.cons (.prim .add (.cons (.var 1) (.cons (.int 2) .nil))) (.cons (.prim .mod (.cons (.prim .add (.cons (.var 10) (.cons (.prim .mul (.cons (.int 2) (.cons (.var 11) .nil))) .nil))) (.cons (.int 7) .nil))) .nil))) .nil))) (.cons (.prim .mul (.cons (.prim .mul (.cons (.int 31) (.cons (.var 10) .nil))) (.cons (.var 10) .nil))) .nil))) (.cons (.prim .mul (.cons (.prim .mul (.cons (.int 57) (.cons (.var 11) .nil))) (.cons (.var 11) .nil))) .nil))))
    (.cons (.ifs (.or (.prim .eq (.cons (.var 8) (.cons (.int 0) .nil))) (.prim .gt (.cons (.call 14 (.cons (.var 12) (.cons (.int 9931) (.cons (.prim .idx (.cons (.lst (.cons (.int 2) (.cons (.int 4) (.cons (.int 7) .nil)))) (.cons (.prim .sub (.cons (.var 8) (.cons (.int 1) .nil))) .nil))) .nil)))) (.cons (.int 0) .nil)))) (.cons (.app 9 (.tup (.cons (.prim .add (.cons (.var 6) (.cons (.var 10) .nil))) (.cons (.prim .add (.cons (.var 7) (.cons (.var 11) .nil))) .nil))))
    .nil) .nil)
    .nil))
noncomputable def ir15b1 : Ss := (.cons (.for_ 11 true (.cons (.var 5) .nil) ir15b0)
    .nil)
noncomputable def ir15 : Ss := (.cons (.asg 3 (.call 13 (.cons (.var 0) (.cons (.var 1) .nil))))
    (.cons (.asg 4 (.prim .add (.cons (.int 1) (.cons (.call 14 (.cons (.var 3) (.cons (.int 9973) (.cons (.int 5) .nil)))) .nil))))
    (.cons (.asg 5 (.prim .add (.cons (.int 1) (.cons (.call 14 (.cons (.var 3) (.cons (.int 9967) (.cons (.int 6) .nil)))) .nil))))
    (.cons (.asg 6 (.call 14 (.cons (.call 13 (.cons (.var 0) (.cons (.prim .add (.cons (.var 1) (.cons (.int 1) .nil))) .nil))) (.cons (.int 9949) (.cons (.prim .sub (.cons (.int 9) (.cons (.var 4) .nil))) .nil)))))
    (.cons (.asg 7 (.call 14 (.cons (.call 13 (.cons (.var 0) (.cons (.prim .add (.cons (.var 1) (.cons (.int 1) .nil))) .nil))) (.cons (.int 9941) (.cons (.prim .sub (.cons (.int 9) (.cons (.var 5) .nil))) .nil)))))
    (.cons (.asg 8 (.call 14 (.cons (.prim .add (.cons (.var 3) (.cons (.int 3) .nil))) (.cons (.int 9907) (.cons (.int 4) .nil)))))
    (.cons (.asg 9 (.lst .nil))
    (.cons (.for_ 10 true (.cons (.var 4) .nil) ir15b1)
    (.cons (.ifs (.not (.var 9)) (.cons (.asg 9 (.lst (.cons (.tup (.cons (.var 6) (.cons (.var 7) .nil))) .nil)))
    .nil) .nil)
    (.cons (.ret (.prim .toTup (.cons (.prim .cutTo (.cons (.var 9) (.cons (.var 2) .nil))) .nil)))
    .nil))))))))))
noncomputable def ir86 : Ss := (.cons (.ret (.prim .addS (.cons (.prim .join0 (.cons (.comp true (.cons (.var 2) .nil) (.bl true) (.ite (.prim .inn (.cons (.tup (.cons (.var 2) (.cons (.var 0) .nil))) (.cons (.var 1) .nil))) (.str "#") (.str "."))) .nil)) (.cons (.str "\n") .nil))))
    .nil)
noncomputable def ir87 : Ss := (.cons (.expr (.call 6 (.cons (.var 0) .nil)))
    (.cons (.asg 1 (.prim .add (.cons (.prim .maxL (.cons (.comp false (.cons (.var 0) .nil) (.bl true) (.prim .idx (.cons (.var 0) (.cons (.int 1) .nil)))) .nil)) (.cons (.int 1) .nil))))
    (.cons (.ret (.prim .join0 (.cons (.comp true (.cons (.prim .add (.cons (.prim .idx (.cons (.prim .idx (.cons (.var 0) (.cons (.prim .neg (.cons (.int 1) .nil)) .nil))) (.cons (.int 0) .nil))) (.cons (.int 1) .nil))) .nil) (.bl true) (.call 86 (.cons (.var 1) (.cons (.var 0) (.cons (.var 2) .nil))))) .nil)))
    .nil)))
noncomputable def ir98b0 : Ss := (.cons (.ifs (.prim .eqS (.cons (.var 5) (.cons (.str "#") .nil))) (.cons (.app 1 (.tup (.cons (.var 2) (.cons (.var 4) .nil))))
    .nil) .nil)
    .nil)
noncomputable def ir98b1 : Ss := (.cons (.forE 4 5 (.var 3) ir98b0)
    .nil)
noncomputable def ir98 : Ss := (.cons (.asg 1 (.lst .nil))
    (.cons (.forE 2 3 (.prim .splitN (.cons (.var 0) .nil)) ir98b1)
    (.cons (.ret (.prim .toTup (.cons (.var 1) .nil)))
    .nil)))
noncomputable def ir99 : Ss := (.cons (.ifs (.not (.prim (.inst .str) (.cons (.var 0) .nil))) (.cons .stop
    .nil) .nil)
    (.cons (.asg 1 (.call 98 (.cons (.var 0) .nil)))
    (.cons (.ifs (.or (.not (.call 5 (.cons (.var 1) .nil))) (.prim .neS (.cons (.call 87 (.cons (.var 1) .nil)) (.cons (.var 0) .nil)))) (.cons .stop
    .nil) .nil)
    (.cons (.retV 1)
    .nil))))
noncomputable def ir103b0 : Ss := (.cons (.asg 2 (.prim .addS (.cons (.var 2) (.cons (.prim .idx (.cons (.lst (.cons (.str ".") (.cons (.str "#") .nil))) (.cons (.prim .intOf (.cons (.prim .inn (.cons (.tup (.cons (.var 3) (.cons (.var 4) .nil))) (.cons (.var 1) .nil))) .nil)) .nil))) .nil))))
    .nil)
noncomputable def ir103b1 : Ss := (.cons (.for_ 4 true (.cons (.prim .add (.cons (.prim .maxL (.cons (.comp false (.cons (.var 1) .nil) (.bl true) (.prim .idx (.cons (.var 0) (.cons (.int 1) .nil)))) .nil)) (.cons (.int 1) .nil))) .nil) ir103b0)
    (.cons (.asg 2 (.prim .addS (.cons (.var 2) (.cons (.str "\n") .nil))))
    .nil))
noncomputable def ir103 : Ss := (.cons (.asg 1 (.call 15 (.cons (.var 0) (.cons (.int 1) (.cons (.int 24) .nil)))))
    (.cons (.asg 2 (.str ""))
    (.cons (.for_ 3 true (.cons (.prim .add (.cons (.prim .maxL (.cons (.comp false (.cons (.var 1) .nil) (.bl true) (.prim .idx (.cons (.var 0) (.cons (.int 0) .nil)))) .nil)) (.cons (.int 1) .nil))) .nil) ir103b1)
    (.cons (.asg 5 (.call 87 (.cons (.var 1) .nil)))
    (.cons (.ret (.and (.prim (.inst .str) (.cons (.var 5) .nil)) (.and (.prim .eqS (.cons (.var 5) (.cons (.var 2) .nil))) (.prim .eq (.cons (.call 99 (.cons (.var 5) .nil)) (.cons (.var 1) .nil))))))
    .nil)))))
noncomputable def U : Nat → Option Fn
  | 0 => some ⟨3, 3, ir0, [], none⟩
  | 1 => some ⟨1, 1, ir1, [], none⟩
  | 2 => some ⟨1, 1, ir2, [], none⟩
  | 4 => some ⟨1, 1, ir4, [], none⟩
  | 5 => some ⟨1, 1, ir5, [], none⟩
  | 6 => some ⟨1, 1, ir6, [], none⟩
  | 13 => some ⟨2, 2, ir13, [], none⟩
  | 14 => some ⟨3, 3, ir14, [], none⟩
  | 15 => some ⟨3, 13, ir15, [], none⟩
  | 86 => some ⟨3, 3, ir86, [], none⟩
  | 87 => some ⟨1, 2, ir87, [], none⟩
  | 98 => some ⟨1, 6, ir98, [], none⟩
  | 99 => some ⟨1, 2, ir99, [], none⟩
  | 103 => some ⟨1, 6, ir103, [], none⟩
  | _ => none
theorem U0 : U 0 = some ⟨3, 3, ir0, [], none⟩ := rfl
theorem U1 : U 1 = some ⟨1, 1, ir1, [], none⟩ := rfl
theorem U2 : U 2 = some ⟨1, 1, ir2, [], none⟩ := rfl
theorem U4 : U 4 = some ⟨1, 1, ir4, [], none⟩ := rfl
theorem U5 : U 5 = some ⟨1, 1, ir5, [], none⟩ := rfl
theorem U6 : U 6 = some ⟨1, 1, ir6, [], none⟩ := rfl
theorem U13 : U 13 = some ⟨2, 2, ir13, [], none⟩ := rfl
theorem U14 : U 14 = some ⟨3, 3, ir14, [], none⟩ := rfl
theorem U15 : U 15 = some ⟨3, 13, ir15, [], none⟩ := rfl
theorem U86 : U 86 = some ⟨3, 3, ir86, [], none⟩ := rfl
theorem U87 : U 87 = some ⟨1, 2, ir87, [], none⟩ := rfl
theorem U98 : U 98 = some ⟨1, 6, ir98, [], none⟩ := rfl
theorem U99 : U 99 = some ⟨1, 2, ir99, [], none⟩ := rfl
theorem U103 : U 103 = some ⟨1, 6, ir103, [], none⟩ := rfl
end LK
set_option linter.all false
namespace LK
open L2.LW
noncomputable def fuel0 : Nat := 100000
noncomputable abbrev call (n i : Nat) (ds : List D) : Option SV := callN U fuel0 n i ds
theorem call_succ {n i : Nat} {F : Fn} {ds : List D} (h : U i = some F) (hl : ds.length = F.np) (hio : F.io = [] := by rfl) (hx : F.xb = none := by rfl) :
    callN U fuel0 (n + 1) i ds = endOf (exSs (callA U fuel0 n) fuel0 F.body (ds.map (fun d => some (.val d)) ++ List.replicate (F.nl - F.np) none)) := callN_succ h hl hio hx
noncomputable abbrev Cell := Int × Int
noncomputable def cD (c : Cell) : D := .tup [.int c.1, .int c.2]
noncomputable def fD (f : List Cell) : D := .tup (f.map cD)
noncomputable def lD (f : List Cell) : D := .lst (f.map cD)
@[simp] theorem plain_cD {c : Cell} : plain (cD c) = true := by simp [cD]
@[simp] theorem plains_cells : ∀ {l : List Cell}, plains (l.map cD) = true
  | [] => by simp
  | c :: r => by simp [plains_cells (l := r)]
@[simp] theorem plain_fD {f : List Cell} : plain (fD f) = true := by simp [fD]
@[simp] theorem shal_cD {c : Cell} {n : Nat} : shal (n + 1) (cD c) = true := by simp [cD, shal]
@[simp] theorem shal_cells {n : Nat} {l : List Cell} : (l.map cD).all (shal (n + 1)) = true := by
  rw [List.all_map, List.all_eq_true]; intro x _; exact shal_cD
@[simp] theorem eqD_cD {a b : Cell} : eqD (cD a) (cD b) = decide (a = b) := by
  rw [Bool.eq_iff_iff]
  obtain ⟨a1, a2⟩ := a; obtain ⟨b1, b2⟩ := b
  simp [cD, eqD, eqDs]
@[simp] theorem eqDs_cells : ∀ {a b : List Cell}, eqDs (a.map cD) (b.map cD) = decide (a = b)
  | [], [] => by simp [eqDs]
  | [], _ :: _ => by simp [eqDs]
  | _ :: _, [] => by simp [eqDs]
  | x :: xs, y :: ys => by
    rw [Bool.eq_iff_iff]
    simp [eqDs, eqDs_cells (a := xs) (b := ys)]
@[simp] theorem any_cells {c : Cell} {l : List Cell} : ((l.map cD).any fun y => eqD y (cD c)) = decide (c ∈ l) := by
  rw [Bool.eq_iff_iff]
  simp [List.any_map, List.any_eq_true]
theorem is_whole_ok (n : Nat) (i a b : Int) : callN U fuel0 (n + 1) 0 [.int i, .int a, .int b] = some (.val (.bl (decide (a ≤ i) && decide (i ≤ b)))) := by
  rw [call_succ U0 rfl]
  simp [ir0]
  by_cases h : a ≤ i <;> simp [h]
theorem is_couple_ok (n : Nat) (c : Cell) : callN U fuel0 (n + 1) 1 [cD c] = some (.val (.bl true)) := by
  rw [call_succ U1 rfl]
  simp [ir1, cD]
noncomputable def okC (c : Cell) : Prop := 0 ≤ c.1 ∧ c.1 ≤ 7 ∧ 0 ≤ c.2 ∧ c.2 ≤ 7
theorem is_cell_ok (n : Nat) {c : Cell} (h : okC c) : callN U fuel0 (n + 2) 2 [cD c] = some (.val (.bl true)) := by
  rw [call_succ U2 rfl]
  obtain ⟨h1, h2, h3, h4⟩ := h
  have h0 := is_couple_ok n c
  simp [ir2, h0, is_whole_ok]
  simp [cD, is_whole_ok, h1, h2, h3, h4]
noncomputable def cLt (a b : Cell) : Prop := a.1 < b.1 ∨ (a.1 = b.1 ∧ a.2 < b.2)
noncomputable instance (a b : Cell) : Decidable (cLt a b) := by unfold cLt; exact inferInstance
@[simp] theorem p_ltC {a b : Cell} : primD .lt [cD a, cD b] = some (.val (.bl (decide (cLt a b)))) := by
  simp only [cD, primD, pLt, ints?, Option.map_some, Option.bind_some, okBl, lexLt]
  congr 3
  rw [Bool.eq_iff_iff]
  simp only [cLt]
  by_cases h : a.1 = b.1
  · simp [h]
    by_cases h2 : a.2 = b.2
    · simp [h2]
    · simp [h2]
  · simp [h]
theorem cLt_trans {a b c : Cell} (h : cLt a b) (h' : cLt b c) : cLt a c := by
  unfold cLt at *; omega
theorem cLt_irrefl {a : Cell} : ¬ cLt a a := by unfold cLt; omega
theorem cLt_asymm {a b : Cell} (h : cLt a b) (h' : cLt b a) : False := cLt_irrefl (cLt_trans h h')
structure OkF (f : List Cell) : Prop where
  ne : f ≠ []
  len : f.length ≤ 24
  cells : ∀ c ∈ f, okC c
  rise : f.Pairwise cLt
theorem line_ge : (100000 : Nat) ≤ line := by decide
theorem bools_map {α : Type} {f : α → Bool} : ∀ {l : List α}, bools? (l.map fun x => D.bl (f x)) = some (l.map f)
  | [] => rfl
  | x :: r => by simp [bools?, bools_map (l := r)]
theorem p_all_map {α : Type} {f : α → Bool} {l : List α} : primD .all [.lst (l.map fun x => D.bl (f x))] = some (.val (.bl (l.all f))) := by
  simp [primD, pAll, bools_map, List.all_map, Function.comp_def]
theorem inR_small {i : Int} (h : 0 ≤ i) (h' : i ≤ 1000000) : inR i := by unfold inR; omega
theorem items_rng2 {a b : Int} (h : inR a ∧ inR b) : itemsOf true [.val (.int a), .val (.int b)] = some ((List.range (b - a).toNat).map fun (k : Nat) => D.int (a + (k : Int))) := by simp [itemsOf, h]
theorem items_rng1 {a : Int} (h : inR a) : itemsOf true [.val (.int a)] = some ((List.range a.toNat).map fun (k : Nat) => D.int (0 + (k : Int))) := by simp [itemsOf, h]
@[simp] theorem items_tup {l : List D} : itemsOf false [.val (.tup l)] = some l := id rfl
@[simp] theorem items_lst {l : List D} : itemsOf false [.val (.lst l)] = some l := id rfl
@[simp] theorem items_lis {o : Bool} {l : List D} : itemsOf false [.obj o (.lst l)] = some l := id rfl
theorem idx_cell {f : List Cell} {k : Nat} (h : k < f.length) : primD .idx [fD f, .int (k : Int)] = some (.val (cD f[k])) := by
  rw [fD, p_idxT, atI_nat (by simpa using h)]; simp
theorem is_rising_ok (n : Nat) {f : List Cell} (hl : f.length ≤ 1000) (h : f.Pairwise cLt) : callN U fuel0 (n + 1) 4 [fD f] = some (.val (.bl true)) := by
  rw [call_succ U4 rfl]
  have hl' := line_ge
  have e3 : ((f.length : Int) - 1).toNat = f.length - 1 := by omega
  simp only [ir4]
  simp
  rw [comp_rule0 (rs := [.val (.int 1), .val (.int f.length)]) (xs := List.range (f.length - 1)) (f := fun (k : Nat) => D.int (1 + (k : Int))) (fun _ => .bl true)]
  · simp [p_all_map]
  · simp [fD]
  · rw [items_rng2 ⟨inR_small (by omega) (by omega), inR_small (by omega) (by omega)⟩, e3]
  · simp; omega
  · intro k hk
    rw [List.mem_range] at hk
    have e1 : (1 + (k : Int) - 1) = (k : Int) := by omega
    have e2 : (1 + (k : Int)) = ((k + 1 : Nat) : Int) := by omega
    have hk1 : k < f.length := by omega
    have hk2 : k + 1 < f.length := by omega
    have := List.pairwise_iff_getElem.mp h k (k + 1) hk1 hk2 (by omega)
    simp [e1]
    rw [idx_cell hk1, e2, idx_cell hk2]
    simp [this]
@[simp] theorem hasTy_fD {f : List Cell} : hasTy .tuple (fD f) = true := id rfl
@[simp] theorem hasTy_cD {c : Cell} : hasTy .tuple (cD c) = true := id rfl
theorem len_f {f : List Cell} : primD .len [fD f] = some (.val (.int f.length)) := by simp [fD]
theorem is_floor_ok (n : Nat) {f : List Cell} (h : OkF f) : callN U fuel0 (n + 3) 5 [fD f] = some (.val (.bl true)) := by
  rw [call_succ U5 rfl]
  have hl' := line_ge
  have h1 := h.len
  have h2 : 1 ≤ f.length := by have := h.ne; cases f <;> simp_all
  have hr := is_rising_ok (n + 1) (by omega) h.rise
  simp only [ir5]
  simp -implicitDefEqProofs [len_f, show (1 : Int) ≤ f.length by omega, show (f.length : Int) ≤ 24 by omega, hr]
  rw [comp_rule0 (rs := [.val (fD f)]) (xs := f) (f := cD) (fun _ => .bl true)]
  · simp [p_all_map, fD]
  · simp
  · rfl
  · omega
  · intro c hc
    simp [is_cell_ok n (h.cells c hc)]
theorem checked_ok (n : Nat) {f : List Cell} (h : OkF f) : callN U fuel0 (n + 4) 6 [fD f] = some (.val (fD f)) := by
  rw [call_succ U6 rfl]
  simp [ir6, is_floor_ok n h]
structure OkL (l : Cell) : Prop where
  a : 0 ≤ l.1
  b : l.1 ≤ l.2
  c : 1 ≤ l.2
  d : l.2 ≤ 4
theorem p_inC {c : Cell} {f : List Cell} : primD .inn [cD c, fD f] = some (.val (.bl (decide (c ∈ f)))) := by
  simp only [fD, primD, pIn, shal_cD, shal_cells, Bool.and_self, if_true, any_cells, okBl]
noncomputable def absI (i : Int) : Int := if i < 0 then -i else i
noncomputable def near (l a b : Cell) : Bool := decide ((min (absI (a.1 - b.1)) (absI (a.2 - b.2)), max (absI (a.1 - b.1)) (absI (a.2 - b.2))) = l)
@[simp] theorem cD_0 {c : Cell} : primD .idx [cD c, .int 0] = some (.val (.int c.1)) := id rfl
@[simp] theorem cD_1 {c : Cell} : primD .idx [cD c, .int 1] = some (.val (.int c.2)) := id rfl
end LK
set_option linter.all false
namespace LK
open L2.LW
noncomputable def sm (a : Int) : Prop := -(2 ^ 64) < a ∧ a < 2 ^ 64
theorem sm_of {a : Int} (h : -1000000 ≤ a) (h' : a ≤ 1000000) : sm a := by unfold sm; omega
theorem p_mulS {a b : Int} (h : sm b) : primD .mul [.int a, .int b] = some (.val (.int (a * b))) := p_mulR h
noncomputable def sD (ns : List Int) : D := .lst (ns.map D.int)
noncomputable def cellAt (ns : List Int) (k : Int) : Int := ns.getD k.toNat 0
theorem law_cell_ok (n : Nat) (ns : List Int) {k : Int} (h : 0 ≤ k) : callN U fuel0 (n + 1) 13 [sD ns, .int k] = some (.val (.int (cellAt ns k))) := by
  rw [call_succ U13 rfl]
  obtain ⟨j, rfl⟩ := Int.eq_ofNat_of_zero_le h
  simp -implicitDefEqProofs only [ir13]
  by_cases hj : j < ns.length
  · have hj' : (j : Int) < (ns.length : Int) := by omega
    simp -implicitDefEqProofs [sD, hj']
    rw [p_idxL, atI_nat (by simpa using hj)]
    simp [cellAt, hj]
  · have hj' : ¬ (j : Int) < (ns.length : Int) := by omega
    simp -implicitDefEqProofs [sD, hj']
    simp [cellAt, List.getElem?_eq_none (by omega : ns.length ≤ j)]
theorem law_mix_ok (n : Nat) (x : Int) {p m : Int} (h : 0 < p) (h' : 0 < m) : callN U fuel0 (n + 1) 14 [.int x, .int p, .int m] = some (.val (.int (x * 48271 % p % m))) := by
  rw [call_succ U14 rfl]
  simp -implicitDefEqProofs [ir14, p_mulS (sm_of (a := 48271) (by decide) (by decide)), p_mod h, p_mod h']
structure Built (down right wide : Int) (r k : Int) (fs : List Cell) : Prop where
  rise : fs.Pairwise cLt
  at_ : ∀ x ∈ fs, down ≤ x.1 ∧ right ≤ x.2 ∧ x.2 < right + wide ∧ (x.1 < down + r ∨ (x.1 = down + r ∧ x.2 < right + k))
theorem Built.next {down right wide r k : Int} {fs : List Cell} (b : Built down right wide r k fs) (hk : 0 ≤ k) (hw : k < wide) (hr : 0 ≤ r) : Built down right wide r (k + 1) (fs ++ [(down + r, right + k)]) := by
  refine ⟨?_, fun x hx => ?_⟩
  · rw [List.pairwise_append]
    refine ⟨b.rise, by simp, fun x hx y hy => ?_⟩
    simp only [List.mem_singleton] at hy
    subst hy
    have := b.at_ x hx
    unfold cLt; simp only; omega
  · rw [List.mem_append, List.mem_singleton] at hx
    rcases hx with hx | rfl
    · have := b.at_ x hx; omega
    · show down ≤ down + r ∧ right ≤ right + k ∧ right + k < right + wide ∧ (down + r < down + r ∨ (down + r = down + r ∧ right + k < right + (k + 1)))
      omega
theorem Built.skip {down right wide r k : Int} {fs : List Cell} (b : Built down right wide r k fs) : Built down right wide r (k + 1) fs :=
  ⟨b.rise, fun x hx => by have := b.at_ x hx; omega⟩
theorem Built.row {down right wide r : Int} {fs : List Cell} (b : Built down right wide r wide fs) : Built down right wide (r + 1) 0 fs :=
  ⟨b.rise, fun x hx => by have := b.at_ x hx; omega⟩
theorem idx3 (a b c : D) {w : Int} (h : w = 0 ∨ w = 1 ∨ w = 2) : ∃ d, (d = a ∨ d = b ∨ d = c) ∧ primD .idx [.lst [a, b, c], .int w] = some (.val d) := by
  rcases h with rfl | rfl | rfl
  · exact ⟨a, .inl rfl, rfl⟩
  · exact ⟨b, .inr (.inl rfl), rfl⟩
  · exact ⟨c, .inr (.inr rfl), rfl⟩
@[simp] theorem cells_snoc {fs : List Cell} {a b : Int} : fs.map cD ++ [.tup [.int a, .int b]] = (fs ++ [(a, b)]).map cD := by simp [cD]
theorem floor_inner (n : Nat) (ns : List Int) {at_ most x rows wide down right way r k : Int} {j12 : Option SV} {fs : List Cell} (h0 : 0 ≤ at_) (hr : 0 ≤ r ∧ r ≤ 1000) (hk : 0 ≤ k ∧ k ≤ 1000) (hw : 0 ≤ way ∧ way < 4) (hl : fs.length ≤ 1000) (hj : freeS (some j12) = true) :
    ∃ v fs', freeS (some v) = true ∧ exSs (callA U fuel0 (n + 1)) fuel0 ir15b0 [some (.val (sD ns)), some (.val (.int at_)), some (.val (.int most)), some (.val (.int x)), some (.val (.int rows)), some (.val (.int wide)), some (.val (.int down)), some (.val (.int right)), some (.val (.int way)),
      some (.obj true (.lst (fs.map cD))), some (.val (.int r)), some (.val (.int k)), j12] =
      some (.nx, [some (.val (sD ns)), some (.val (.int at_)), some (.val (.int most)), some (.val (.int x)), some (.val (.int rows)), some (.val (.int wide)), some (.val (.int down)), some (.val (.int right)), some (.val (.int way)),
      some (.obj true (.lst (fs'.map cD))), some (.val (.int r)), some (.val (.int k)), v]) ∧ (fs' = fs ∨ fs' = fs ++ [(down + r, right + k)]) := by
  have m1 : sm r := sm_of (by omega) (by omega)
  have m2 : sm k := sm_of (by omega) (by omega)
  have h7 : (0 : Int) < 7 := by decide
  have hi : 0 ≤ at_ + 2 + (r + 2 * k) % 7 := by omega
  have hl' := line_ge
  have hl2 : fs.length < line := by omega
  simp -implicitDefEqProofs only [ir15b0]
  simp -implicitDefEqProofs [p_mulS m1, p_mulS m2, p_mod h7, law_cell_ok n ns hi, hj]
  by_cases hz : way = 0
  · simp -implicitDefEqProofs [hz, hl2]
    exact ⟨_, freeS_val, fs ++ [(down + r, right + k)], by simp; rfl, .inr rfl⟩
  · obtain ⟨d, hd, e⟩ := idx3 (.int 2) (.int 4) (.int 7) (w := way - 1) (by omega)
    simp -implicitDefEqProofs [hz, e]
    have key : ∃ m, d = .int m ∧ 0 < m := by
      rcases hd with rfl | rfl | rfl
      · exact ⟨_, rfl, by decide⟩
      · exact ⟨_, rfl, by decide⟩
      · exact ⟨_, rfl, by decide⟩
    obtain ⟨m, rfl, hm⟩ := key
    simp -implicitDefEqProofs [law_mix_ok n _ (show (0 : Int) < 9931 by decide) hm]
    split
    · simp -implicitDefEqProofs [hl2]
      exact ⟨_, freeS_val, fs ++ [(down + r, right + k)], by simp; rfl, .inr rfl⟩
    · exact ⟨_, freeS_val, fs, rfl, .inl rfl⟩
noncomputable def flE (ns : List Int) (at_ most x rows wide down right way : Int) (fs : List Cell) (a b c : Option SV) : Env :=
  [some (.val (sD ns)), some (.val (.int at_)), some (.val (.int most)), some (.val (.int x)), some (.val (.int rows)), some (.val (.int wide)), some (.val (.int down)), some (.val (.int right)), some (.val (.int way)), some (.obj true (.lst (fs.map cD))), a, b, c]
theorem floor_row (n : Nat) (ns : List Int) {at_ most x rows wide down right way : Int} {r : Nat} {fs : List Cell} {b c : Option SV} (h0 : 0 ≤ at_) (hr : r ≤ 100) (hw : 0 ≤ wide ∧ wide ≤ 6) (hy : 0 ≤ way ∧ way < 4) (hl : fs.length ≤ 6 * r) (hb : Built down right wide r 0 fs) (fb : freeS (some b) = true) (fc : freeS (some c) = true) :
    ∃ a' b' c' fs', (freeS (some a') = true ∧ freeS (some b') = true ∧ freeS (some c') = true) ∧ exSs (callA U fuel0 (n + 1)) fuel0 ir15b1 (flE ns at_ most x rows wide down right way fs (some (.val (.int r))) b c) = some (.nx, flE ns at_ most x rows wide down right way fs' a' b' c') ∧ fs'.length ≤ 6 * (r + 1) ∧ Built down right wide (r + 1 : Nat) 0 fs' := by
  obtain ⟨ρ', h1, b', c', fs', fr, rfl, h2, h3⟩ := forL_rng (i := 11) (a := 0) (m := wide.toNat) (body := exSs (callA U fuel0 (n + 1)) fuel0 ir15b0)
    (fun k ρ => ∃ b' c' fs', (freeS (some b') = true ∧ freeS (some c') = true) ∧ ρ = flE ns at_ most x rows wide down right way fs' (some (.val (.int r))) b' c' ∧ fs'.length ≤ 6 * r + k ∧ Built down right wide r (k : Int) fs') (ρ := flE ns at_ most x rows wide down right way fs (some (.val (.int r))) b c)
    ⟨b, c, fs, ⟨fb, fc⟩, rfl, by omega, hb⟩ fun k ρ hk ⟨b', c', fs', fr, e, h2, h3⟩ => by
      subst e
      obtain ⟨v, fs2, fv, e1, e2⟩ := floor_inner n ns (at_ := at_) (most := most) (x := x) (rows := rows) (wide := wide) (down := down) (right := right) (way := way) (r := r) (k := 0 + (k : Int)) (j12 := c') (fs := fs') h0 (by omega) (by omega) hy (by omega) fr.2
      refine ⟨_, _, e1, .inl rfl, _, v, fs2, ⟨freeS_val, fv⟩, rfl, ?_⟩
      rw [Int.zero_add] at e2
      rcases e2 with rfl | rfl
      · exact ⟨by omega, h3.skip⟩
      · exact ⟨by simp; omega, h3.next (by omega) (by omega) (by omega)⟩
  refine ⟨some (.val (.int r)), b', c', fs', ⟨freeS_val, fr.1, fr.2⟩, ?_, by omega, ?_⟩
  · simp -implicitDefEqProofs only [ir15b1, exSs_cons, exS_for, evEs_cons, evEs_nil, evE_var, free_eq]
    rw [show (flE ns at_ most x rows wide down right way fs (some (.val (.int r))) b c)[11]? = some b from rfl, fb, show look (flE ns at_ most x rows wide down right way fs (some (.val (.int r))) b c) 5 = some (.val (.int wide)) from rfl]
    simp -implicitDefEqProofs [items_rng1 (inR_small hw.1 (by omega : wide ≤ 1000000))]
    rw [show (List.map (fun (k : Nat) => D.int (k : Int)) (List.range wide.toNat)) = (List.range wide.toNat).map fun (k : Nat) => D.int (0 + (k : Int)) by simp, h1]
    simp
  · have e : (wide.toNat : Int) = wide := by omega
    rw [e] at h3
    have := h3.row
    simpa using this
theorem floor_all (n : Nat) (ns : List Int) {at_ most x rows wide down right way : Int} {a b c : Option SV} (h0 : 0 ≤ at_) (hr : 0 ≤ rows ∧ rows ≤ 5) (hw : 0 ≤ wide ∧ wide ≤ 6) (hy : 0 ≤ way ∧ way < 4) (fa : freeS (some a) = true) (fb : freeS (some b) = true) (fc : freeS (some c) = true) :
    ∃ a' b' c' fs', exS (callA U fuel0 (n + 1)) fuel0 (.for_ 10 true (.cons (.var 4) .nil) ir15b1) (flE ns at_ most x rows wide down right way [] a b c) = some (.nx, flE ns at_ most x rows wide down right way fs' a' b' c') ∧ Built down right wide rows 0 fs' ∧ fs'.length ≤ 30 := by
  obtain ⟨ρ', h1, a', b', c', fs', fr, rfl, h2, h3⟩ := forL_rng (i := 10) (a := 0) (m := rows.toNat) (body := exSs (callA U fuel0 (n + 1)) fuel0 ir15b1)
    (fun k ρ => ∃ a' b' c' fs', (freeS (some a') = true ∧ freeS (some b') = true ∧ freeS (some c') = true) ∧ ρ = flE ns at_ most x rows wide down right way fs' a' b' c' ∧ fs'.length ≤ 6 * k ∧ Built down right wide (k : Int) 0 fs') (ρ := flE ns at_ most x rows wide down right way [] a b c)
    ⟨a, b, c, [], ⟨fa, fb, fc⟩, rfl, by simp, ⟨by simp, by simp⟩⟩ fun k ρ hk ⟨a', b', c', fs', fr, e, h2, h3⟩ => by
      subst e
      obtain ⟨a2, b2, c2, fs2, fr2, e1, e2, e3⟩ := floor_row n ns (at_ := at_) (most := most) (x := x) (rows := rows) (wide := wide) (down := down) (right := right) (way := way) (r := k) (fs := fs') (b := b') (c := c') h0 (by omega) hw hy h2 h3 fr.2.1 fr.2.2
      refine ⟨_, _, ?_, .inl rfl, a2, b2, c2, fs2, fr2, rfl, e2, e3⟩
      rw [Int.zero_add]
      exact e1
  refine ⟨a', b', c', fs', ?_, ?_, by omega⟩
  · simp -implicitDefEqProofs only [exS_for, evEs_cons, evEs_nil, evE_var, free_eq]
    rw [show (flE ns at_ most x rows wide down right way [] a b c)[10]? = some a from rfl, fa, show look (flE ns at_ most x rows wide down right way [] a b c) 4 = some (.val (.int rows)) from rfl]
    simp -implicitDefEqProofs [items_rng1 (inR_small hr.1 (by omega : rows ≤ 1000000))]
    rw [show (List.map (fun (k : Nat) => D.int (k : Int)) (List.range rows.toNat)) = (List.range rows.toNat).map fun (k : Nat) => D.int (0 + (k : Int)) by simp, h1]
  · have e : (rows.toNat : Int) = rows := by omega
    rw [e] at h3
    exact h3
theorem p_cutL {fs : List Cell} {k : Int} (h : 0 ≤ k) : primD .cutTo [.lst (fs.map cD), .int k] = some (.obj true (.lst ((fs.take k.toNat).map cD))) := by
  simp [primD, pCutTo, h]
noncomputable def Rows5 (f : List Cell) : Prop := ∃ d : Int, ∀ c ∈ f, d ≤ c.1 ∧ c.1 < d + 5
theorem law_floor_ok2 (n : Nat) (ns : List Int) {at_ most : Int} (h0 : 0 ≤ at_) (hm : 1 ≤ most) (hm2 : most ≤ 24) : ∃ f, OkF f ∧ (f.length : Int) ≤ most ∧ Rows5 f ∧ callN U fuel0 (n + 2) 15 [sD ns, .int at_, .int most] = some (.val (fD f)) := by
  rw [call_succ U15 rfl]
  simp -implicitDefEqProofs only [ir15]
  have p5 : (0 : Int) < 5 := by decide
  have p6 : (0 : Int) < 6 := by decide
  have p4 : (0 : Int) < 4 := by decide
  have q1 : (0 : Int) < 9973 := by decide
  have q2 : (0 : Int) < 9967 := by decide
  have q3 : (0 : Int) < 9949 := by decide
  have q4 : (0 : Int) < 9941 := by decide
  have q5 : (0 : Int) < 9907 := by decide
  have h1 : 0 ≤ at_ + 1 := by omega
  simp -implicitDefEqProofs [law_cell_ok n ns h0, law_cell_ok n ns h1, law_mix_ok n _ q1 p5, law_mix_ok n _ q2 p6, law_mix_ok n _ q5 p4]
  generalize hx : cellAt ns at_ = x
  generalize hrows : 1 + x * 48271 % 9973 % 5 = rows
  generalize hwide : 1 + x * 48271 % 9967 % 6 = wide
  have hr9 : 0 < 9 - rows := by omega
  have hw9 : 0 < 9 - wide := by omega
  simp -implicitDefEqProofs [law_mix_ok n _ q3 hr9, law_mix_ok n _ q4 hw9, law_cell_ok n ns h1, law_mix_ok n _ q5 p4]
  generalize hdown : cellAt ns (at_ + 1) * 48271 % 9949 % (9 - rows) = down
  generalize hright : cellAt ns (at_ + 1) * 48271 % 9941 % (9 - wide) = right
  generalize hway : (x + 3) * 48271 % 9907 % 4 = way
  have bw : 0 ≤ way ∧ way < 4 := by omega
  have bd : 0 ≤ down ∧ down < 9 - rows := by rw [← hdown]; exact ⟨Int.emod_nonneg _ (by omega), Int.emod_lt_of_pos _ hr9⟩
  have br : 0 ≤ right ∧ right < 9 - wide := by rw [← hright]; exact ⟨Int.emod_nonneg _ (by omega), Int.emod_lt_of_pos _ hw9⟩
  obtain ⟨a', b', c', fs, e1, hb, hl⟩ := floor_all n ns (at_ := at_) (most := most) (x := x) (rows := rows) (wide := wide) (down := down) (right := right) (way := way) (a := none) (b := none) (c := none) h0 (by omega) (by omega) bw rfl rfl rfl
  have e1' := e1
  simp -implicitDefEqProofs only [flE, List.map_nil] at e1'
  have hok : ∀ c ∈ fs, okC c := fun c hc => by
    have := hb.at_ c hc
    unfold okC; omega
  by_cases hf : fs = []
  · subst hf
    refine ⟨[(down, right)], ⟨by simp, by simp, fun c hc => ?_, by simp⟩, by simp; omega, ⟨down, fun c hc => ?_⟩, ?_⟩
    · simp at hc; subst hc; unfold okC; simp only; omega
    · simp at hc; subst hc; simp only; omega
    · simp -implicitDefEqProofs [e1']
      rw [show D.tup [.int down, .int right] = cD (down, right) from rfl, show ([cD (down, right)] : List D) = [(down, right)].map cD from rfl, p_cutL (by omega)]
      rw [List.take_of_length_le (by simp; omega)]
      simp [fD]
  · refine ⟨fs.take most.toNat, ⟨fun h => ?_, ?_, fun c hc => hok c (List.mem_of_mem_take hc), hb.rise.sublist (List.take_sublist _ _)⟩, ?_, ⟨down, fun c hc => ?_⟩, ?_⟩
    · rw [List.take_eq_nil_iff] at h
      rcases h with h | h
      · omega
      · exact hf h
    · rw [List.length_take]; omega
    · rw [List.length_take]; omega
    · have := hb.at_ c (List.mem_of_mem_take hc)
      omega
    · have hne : fs.map cD ≠ [] := by simpa using hf
      simp -implicitDefEqProofs [e1', hne, hf]
      rw [p_cutL (by omega)]
      simp [fD]
theorem law_floor_ok (n : Nat) (ns : List Int) {at_ most : Int} (h0 : 0 ≤ at_) (hm : 1 ≤ most) (hm2 : most ≤ 24) : ∃ f, OkF f ∧ (f.length : Int) ≤ most ∧ callN U fuel0 (n + 2) 15 [sD ns, .int at_, .int most] = some (.val (fD f)) := by
  obtain ⟨f, h1, h2, _, h3⟩ := law_floor_ok2 n ns h0 hm hm2
  exact ⟨f, h1, h2, h3⟩
end LK
set_option linter.all false
namespace LK
open L2.LW
noncomputable def depth : Nat := 40
end LK
set_option linter.all false
namespace LK
open L2.LW
noncomputable abbrev Ms := List (Cell × Cell)
noncomputable def dD (ms : Ms) : D := .dct true (ms.map fun p => cD p.1) (ms.map fun p => cD p.2)
noncomputable def get (ms : Ms) (c : Cell) : Option Cell := (ms.find? fun p => decide (p.1 = c)).map (·.2)
noncomputable def put (ms : Ms) (c v : Cell) : Ms := if (get ms c).isSome then ms.map (fun p => if p.1 = c then (p.1, v) else p) else ms ++ [(c, v)]
@[simp] theorem key_cD {c : Cell} : isKey true (cD c) = true := by simp [cD, isKey, ints?]
theorem kix_cells (c : Cell) : ∀ l : List Cell, kix (l.map cD) (cD c) = l.findIdx? fun x => decide (x = c)
  | [] => rfl
  | x :: r => by
    have ih := kix_cells c r
    unfold kix at ih ⊢
    rw [List.map_cons, List.findIdx?_cons, List.findIdx?_cons, eqD_cD, ih]
theorem kix_some (c : Cell) : ∀ l : List Cell, (kix (l.map cD) (cD c)).isSome = decide (c ∈ l) := fun l => by
  rw [kix_cells]
  cases e : l.findIdx? fun x => decide (x = c) with
  | none =>
    rw [List.findIdx?_eq_none_iff] at e
    have : c ∉ l := fun h => by have := e c h; simp at this
    simp [this]
  | some i =>
    obtain ⟨h1, h2, _⟩ := List.findIdx?_eq_some_iff_getElem.mp e
    have : c ∈ l := by
      have h2 : l[i] = c := by simpa using h2
      rw [← h2]; exact List.getElem_mem h1
    simp [this]
theorem get_cons (p : Cell × Cell) (r : Ms) (c : Cell) : get (p :: r) c = if p.1 = c then some p.2 else get r c := by
  unfold get
  rw [List.find?_cons]
  by_cases h : p.1 = c <;> simp [h]
theorem get_isSome (c : Cell) : ∀ ms : Ms, (get ms c).isSome = decide (c ∈ ms.map (·.1))
  | [] => rfl
  | p :: r => by
    rw [get_cons, List.map_cons]
    by_cases h : p.1 = c
    · simp [h]
    · rw [if_neg h, get_isSome c r]
      have : ¬ c = p.1 := fun z => h z.symm
      simp [this]
theorem keys_dD (ms : Ms) : (ms.map fun p => cD p.1) = (ms.map (·.1)).map cD := by rw [List.map_map]; rfl
@[simp] theorem p_inD {c : Cell} {ms : Ms} : primD .inn [cD c, dD ms] = some (.val (.bl (get ms c).isSome)) := by
  simp only [dD, primD, pIn, key_cD, if_true, okBl, keys_dD, kix_some, get_isSome]
@[simp] theorem p_ninD {c : Cell} {ms : Ms} : primD .nin [cD c, dD ms] = some (.val (.bl (!(get ms c).isSome))) := by
  simp only [dD, primD, pNin, key_cD, if_true, okBl, keys_dD, kix_some, get_isSome]
@[simp] theorem plains_dD {ms : Ms} : plains (ms.map fun p => cD p.2) = true := by
  have : (ms.map fun p => cD p.2) = (ms.map (·.2)).map cD := by rw [List.map_map]; rfl
  rw [this]; exact plains_cells
@[simp] theorem isDct_dD {ms : Ms} : isDct (dD ms) = true := by simp [dD]
@[simp] theorem plainO_dD {ms : Ms} : plainO (dD ms) = true := by simp [dD]
noncomputable def knodup (ms : Ms) : Prop := (ms.map (·.1)).Nodup
theorem nodup_le {α : Type} [DecidableEq α] : ∀ {l m : List α}, l.Nodup → (∀ x ∈ l, x ∈ m) → l.length ≤ m.length
  | [], _, _, _ => Nat.zero_le _
  | x :: r, m, hn, hs => by
    rw [List.nodup_cons] at hn
    have hx := hs x List.mem_cons_self
    have ih := nodup_le (l := r) (m := m.erase x) hn.2 fun y hy => by
      rw [List.mem_erase_of_ne (fun e => hn.1 (by rw [← e]; exact hy))]
      exact hs y (List.mem_cons_of_mem _ hy)
    rw [List.length_erase_of_mem hx] at ih
    have : 0 < m.length := List.length_pos_of_mem hx
    simp; omega
theorem leaps14 {l : Cell} (h : OkL l) : l ∈ [((0 : Int), (1 : Int)), (1, 1), (0, 2), (1, 2), (2, 2), (0, 3), (1, 3), (2, 3), (3, 3), (0, 4), (1, 4), (2, 4), (3, 4), (4, 4)] := by
  obtain ⟨a, b⟩ := l
  obtain ⟨h1, h2, h3, h4⟩ := h
  simp only at h1 h2 h3 h4
  simp only [List.mem_cons, Prod.mk.injEq, List.not_mem_nil, or_false]
  omega
theorem OkL.cases {P : Cell → Prop} {l : Cell} (h : OkL l) (p : ∀ x ∈ [((0 : Int), (1 : Int)), (1, 1), (0, 2), (1, 2), (2, 2), (0, 3), (1, 3), (2, 3), (3, 3), (0, 4), (1, 4), (2, 4), (3, 4), (4, 4)], P x) : P l := p l (leaps14 h)
end LK
set_option linter.all false
namespace LK
open L2.LW
noncomputable def outS (k : Option (List D)) : Option (Option SV) → Option (List D)
  | some (some (.io d)) => k.map (d :: ·)
  | _ => none
@[simp] theorem outS_io {k : Option (List D)} {d : D} : outS k (some (some (.io d))) = k.map (d :: ·) := id rfl
@[simp] theorem outsOf_nil {ρ : Env} : outsOf ρ [] = some [] := by rw [outsOf]
@[simp] theorem outsOf_cons {ρ : Env} {i : Nat} {r : List Nat} : outsOf ρ (i :: r) = outS (outsOf ρ r) ρ[i]? := by
  rw [outsOf]
  rcases ρ[i]? with _ | _ | (_ | _ | _) <;> rfl
@[simp] theorem endA_rt {io : List Nat} {r : SV} {ρ : Env} : endA io (some (.rt r, ρ)) = (outsOf ρ io).map (Ans.ok r) := id rfl
@[simp] theorem endA_nx {io : List Nat} {ρ : Env} : endA io (some (.nx, ρ)) = (outsOf ρ io).map (Ans.ok (.val .non)) := id rfl
noncomputable def tD (tr : List Cell) : D := .dct true (tr.map cD) (tr.map fun _ => .bl true)
@[simp] theorem plains_tD {tr : List Cell} : plains (tr.map fun _ => (.bl true : D)) = true := by
  induction tr with
  | nil => simp
  | cons x r ih => simpa using ih
@[simp] theorem isDct_tD {tr : List Cell} : isDct (tD tr) = true := by simp [tD]
@[simp] theorem plainO_tD {tr : List Cell} : plainO (tD tr) = true := by simp [tD]
@[simp] theorem p_ninT {c : Cell} {tr : List Cell} : primD .nin [cD c, tD tr] = some (.val (.bl (!decide (c ∈ tr)))) := by
  simp only [tD, primD, pNin, key_cD, if_true, okBl, kix_some]
section
variable (f : List Cell) (l : Cell)
noncomputable def nb (c : Cell) : List Cell := f.filter (near l c)
structure Half (ms : Ms) : Prop where
  nd : knodup ms
  inF : ∀ x y, get ms x = some y → x ∈ f ∧ y ∈ f ∧ near l x y = true
end
section
variable {f : List Cell} {l : Cell}
theorem Half.len {ms : Ms} (h : Half f l ms) : ms.length ≤ f.length := by
  have := nodup_le (l := ms.map fun (p : Cell × Cell) => p.1) (m := f) h.nd fun x hx => by
    have : (get ms x).isSome = true := by rw [get_isSome]; simpa using hx
    obtain ⟨y, hy⟩ := Option.isSome_iff_exists.mp this
    exact (h.inF x y hy).1
  simpa using this
@[simp] theorem avOf_cD {c : Cell} : avOf (.val (cD c)) = some (.e (cD c)) := by simp [cD]
@[simp] theorem avOf_fD {g : List Cell} : avOf (.val (fD g)) = some (.e (fD g)) := by simp [fD]
structure TrOk (f tr : List Cell) : Prop where
  nd : tr.Nodup
  sub : ∀ x ∈ tr, x ∈ f
theorem TrOk.len {tr : List Cell} (h : TrOk f tr) : tr.length ≤ f.length := nodup_le h.nd h.sub
theorem TrOk.snoc {tr : List Cell} {o : Cell} (h : TrOk f tr) (ho : o ∈ f) (ht : o ∉ tr) : TrOk f (tr ++ [o]) := by
  refine ⟨?_, fun x hx => ?_⟩
  · rw [List.nodup_append]
    refine ⟨h.nd, by simp, fun a ha b hb e => ?_⟩
    simp at hb; subst hb; subst e; exact ht ha
  · rw [List.mem_append, List.mem_singleton] at hx
    rcases hx with z | rfl
    · exact h.sub x z
    · exact ho
end
end LK
set_option linter.all false
namespace LK
open L2.LW
section
variable {α : Type}
noncomputable def getG (ms : List (Cell × α)) (c : Cell) : Option α := (ms.find? fun p => decide (p.1 = c)).map (·.2)
theorem getG_cons (p : Cell × α) (r : List (Cell × α)) (c : Cell) : getG (p :: r) c = if p.1 = c then some p.2 else getG r c := by
  unfold getG
  rw [List.find?_cons]
  by_cases h : p.1 = c <;> simp [h]
theorem getG_isSome (c : Cell) : ∀ ms : List (Cell × α), (getG ms c).isSome = decide (c ∈ ms.map (·.1))
  | [] => rfl
  | p :: r => by
    rw [getG_cons, List.map_cons]
    by_cases h : p.1 = c
    · simp [h]
    · rw [if_neg h, getG_isSome c r]
      have : ¬ c = p.1 := fun z => h z.symm
      simp [this]
end
section
variable (f : List Cell) (l : Cell)
noncomputable def Bk (goal : Cell) : Nat → Cell → Prop
  | 0, c => c = goal
  | k + 1, c => Bk goal k c ∨ (c ∈ f ∧ ∃ p, Bk goal k p ∧ near l c p = true)
noncomputable def Lv (goal : Cell) (k : Nat) (c : Cell) : Prop := Bk f l goal k c ∧ ∀ i, i < k → ¬ Bk f l goal i c
noncomputable abbrev Leads := List (Cell × Option Cell)
structure LOk (goal : Cell) (ms : Leads) : Prop where
  nd : (ms.map (·.1)).Nodup
  sub : ∀ c, (getG ms c).isSome = true → c ∈ f
  root : ∀ c, getG ms c = some none → c = goal
  next : ∀ c p, getG ms c = some (some p) → near l c p = true ∧ ∃ j, Lv f l goal (j + 1) c ∧ Lv f l goal j p ∧ (getG ms p).isSome = true
end
section
variable {f : List Cell} {l : Cell} {goal : Cell}
theorem Bk.inF (hg : goal ∈ f) : ∀ {k : Nat} {c : Cell}, Bk f l goal k c → c ∈ f
  | 0, c, h => by rw [show c = goal from h]; exact hg
  | k + 1, c, h => by
    rcases h with h | h
    · exact Bk.inF hg h
    · exact h.1
theorem LOk.len {ms : Leads} (h : LOk f l goal ms) : ms.length ≤ f.length := by
  have := nodup_le (l := ms.map fun (p : Cell × Option Cell) => p.1) (m := f) h.nd fun x hx => h.sub x (by rw [getG_isSome]; simpa using hx)
  simpa using this
end
end LK
set_option linter.all false
namespace LK
open L2.LW
theorem rise_uniq {α : Type} {R : α → α → Prop} (ir : ∀ a, ¬ R a a) (as : ∀ a b, R a b → R b a → False) : ∀ {l m : List α}, l.Pairwise R → m.Pairwise R → (∀ x, x ∈ l ↔ x ∈ m) → l = m
  | [], [], _, _, _ => rfl
  | [], y :: m, _, _, h => absurd ((h y).mpr List.mem_cons_self) (by simp)
  | x :: l, [], _, _, h => absurd ((h x).mp List.mem_cons_self) (by simp)
  | x :: l, y :: m, hl, hm, h => by
    rw [List.pairwise_cons] at hl hm
    have exy : x = y := by
      rcases List.mem_cons.mp ((h x).mp List.mem_cons_self) with e | e
      · exact e
      · rcases List.mem_cons.mp ((h y).mpr List.mem_cons_self) with e' | e'
        · exact e'.symm
        · exact (as _ _ (hm.1 x e) (hl.1 y e')).elim
    subst exy
    rw [rise_uniq ir as hl.2 hm.2 fun z => ?_]
    constructor
    · intro hz
      rcases List.mem_cons.mp ((h z).mp (List.mem_cons_of_mem _ hz)) with e | e
      · subst e; exact (ir _ (hl.1 z hz)).elim
      · exact e
    · intro hz
      rcases List.mem_cons.mp ((h z).mpr (List.mem_cons_of_mem _ hz)) with e | e
      · subst e; exact (ir _ (hm.1 z hz)).elim
      · exact e
noncomputable def cl (c : Cell) : List Int := [c.1, c.2]
section
variable {α : Type} (g : α → D)
end
noncomputable def part (f : List Cell) (l c : Cell) : List Cell := f.filter fun x => @decide (∃ k, Bk f l c k x) (Classical.propDecidable _)
noncomputable def partsOn (f : List Cell) (l : Cell) : List Cell → List (List Cell) → List (List Cell)
  | [], acc => acc
  | c :: r, acc => if c ∈ acc.flatten then partsOn f l r acc else partsOn f l r (acc ++ [part f l c])
noncomputable def parts (f : List Cell) (l : Cell) : List (List Cell) := partsOn f l f []
end LK
set_option linter.all false
namespace LK
open L2.LW
noncomputable def tx (l : List Nat) : PySem.Str := ⟨l.toArray⟩
noncomputable def sgn (f : List Cell) (r c : Nat) : Nat := if ((r : Int), (c : Int)) ∈ f then 35 else 46
noncomputable def lineN (f : List Cell) (w r : Nat) : List Nat := (List.range w).map (sgn f r)
noncomputable def textN (f : List Cell) (w m : Nat) : List Nat := (List.range m).flatMap fun r => lineN f w r ++ [10]
theorem s_hash : (PySem.Str.ofString "#") = tx [35] := by decide +kernel
theorem s_dot : (PySem.Str.ofString ".") = tx [46] := by decide +kernel
theorem s_nl : (PySem.Str.ofString "\n") = tx [10] := by decide +kernel
theorem s_mt : (PySem.Str.ofString "") = tx [] := by decide +kernel
theorem tx_app (a b : List Nat) : tx a ++ tx b = tx (a ++ b) := by
  show (⟨a.toArray ++ b.toArray⟩ : PySem.Str) = ⟨(a ++ b).toArray⟩
  simp
theorem tx_len (a : List Nat) : (tx a).length = a.length := by
  show a.toArray.size = _
  simp
theorem tx_inj {a b : List Nat} (h : tx a = tx b) : a = b := by
  have : (tx a).cps.toList = (tx b).cps.toList := by rw [h]
  simpa [tx] using this
theorem strs_map : ∀ ys : List PySem.Str, strs? (ys.map D.str) = some ys
  | [] => rfl
  | y :: ys => by simp [strs?, strs_map ys]
theorem p_addS {a b : List Nat} (h : a.length + b.length ≤ 1000) : primD .addS [.str (tx a), .str (tx b)] = some (.val (.str (tx (a ++ b)))) := by
  have : (tx a).length + (tx b).length ≤ 10000000 := by rw [tx_len, tx_len]; omega
  simp only [primD, pAddS, if_pos this, tx_app]
theorem p_join {α : Type} {xs : List α} {g : α → List Nat} (h : ((xs.map g).map List.length).sum ≤ 1000) : primD .join0 [.lst (xs.map fun x => .str (tx (g x)))] = some (.val (.str (tx (xs.flatMap g)))) := by
  have e : (xs.map fun x => D.str (tx (g x))) = (xs.map fun x => tx (g x)).map D.str := by rw [List.map_map]; rfl
  have h2 : ((xs.map fun x => tx (g x)).map (·.length)).sum ≤ 10000000 := by
    rw [List.map_map]
    have : (fun y : PySem.Str => y.length) ∘ (fun x => tx (g x)) = fun x => (g x).length := by funext x; exact tx_len _
    rw [this]
    rw [List.map_map] at h
    exact Nat.le_trans h (by decide)
  simp only [primD, pJoin0, e, strs_map, Option.bind_some, if_pos h2]
  congr 3
  unfold glue0 tx
  rw [List.flatMap_map]
theorem sum_const {α : Type} {xs : List α} {g : α → Nat} {k : Nat} (h : ∀ x ∈ xs, g x = k) : (xs.map g).sum = xs.length * k := by
  induction xs with
  | nil => simp
  | cons a r ih => rw [List.map_cons, List.sum_cons, h a List.mem_cons_self, ih fun x hx => h x (List.mem_cons_of_mem _ hx), List.length_cons, Nat.succ_mul, Nat.add_comm]
theorem flat1 {α β : Type} (g : α → β) : ∀ l : List α, l.flatMap (fun c => [g c]) = l.map g
  | [] => rfl
  | a :: r => by rw [List.flatMap_cons, flat1 g r]; rfl
noncomputable def mx (g : Cell → Int) (f : List Cell) : Int := match f.map g with
  | [] => 0
  | n :: r => r.foldl max n
theorem fold_max : ∀ (r : List Int) (n : Int), n ≤ r.foldl max n ∧ (∀ x ∈ r, x ≤ r.foldl max n) ∧ (r.foldl max n = n ∨ r.foldl max n ∈ r)
  | [], n => ⟨Int.le_refl _, by simp, .inl rfl⟩
  | a :: r, n => by
    obtain ⟨h1, h2, h3⟩ := fold_max r (max n a)
    rw [List.foldl_cons]
    refine ⟨by omega, fun x hx => ?_, ?_⟩
    · rcases List.mem_cons.mp hx with rfl | hx
      · omega
      · exact h2 x hx
    · rcases h3 with h3 | h3
      · rw [h3]
        by_cases h : n ≤ a
        · right; rw [Int.max_eq_right h]; exact List.mem_cons_self
        · left; omega
      · right; exact List.mem_cons_of_mem _ h3
theorem mx_is {g : Cell → Int} {f : List Cell} (h : f ≠ []) : (∀ c ∈ f, g c ≤ mx g f) ∧ (∃ c ∈ f, g c = mx g f) ∧ primD .maxL [.lst (f.map fun c => .int (g c))] = some (.val (.int (mx g f))) := by
  cases f with
  | nil => exact absurd rfl h
  | cons a r =>
    obtain ⟨h1, h2, h3⟩ := fold_max (r.map g) (g a)
    have e : mx g (a :: r) = (r.map g).foldl max (g a) := rfl
    rw [e]
    refine ⟨fun c hc => ?_, ?_, ?_⟩
    · rcases List.mem_cons.mp hc with rfl | hc
      · exact h1
      · exact h2 _ (List.mem_map.mpr ⟨c, hc, rfl⟩)
    · rcases h3 with h3 | h3
      · exact ⟨a, List.mem_cons_self, h3.symm⟩
      · obtain ⟨c, hc, ec⟩ := List.mem_map.mp h3
        exact ⟨c, List.mem_cons_of_mem _ hc, ec⟩
    · have e2 : ((a :: r).map fun c => D.int (g c)) = (g a :: r.map g).map D.int := by simp
      rw [e2, p_maxL]
noncomputable def wid (f : List Cell) : Nat := (mx (·.2) f + 1).toNat
noncomputable def hei (f : List Cell) : Nat := (mx (·.1) f + 1).toNat
theorem wid_is {f : List Cell} (hf : OkF f) : 1 ≤ wid f ∧ wid f ≤ 8 ∧ ((wid f : Nat) : Int) = mx (·.2) f + 1 ∧ ∀ c ∈ f, c.2 < (wid f : Int) := by
  obtain ⟨h1, ⟨c, hc, e⟩, _⟩ := mx_is (g := (·.2)) hf.ne
  have := hf.cells c hc
  unfold okC at this
  have e : c.2 = mx (·.2) f := e
  unfold wid
  refine ⟨by omega, by omega, by omega, fun d hd => ?_⟩
  have : d.2 ≤ mx (·.2) f := h1 d hd
  omega
theorem hei_is {f : List Cell} (hf : OkF f) : 1 ≤ hei f ∧ hei f ≤ 8 ∧ ((hei f : Nat) : Int) = mx (·.1) f + 1 ∧ ∀ c ∈ f, c.1 < (hei f : Int) := by
  obtain ⟨h1, ⟨c, hc, e⟩, _⟩ := mx_is (g := (·.1)) hf.ne
  have := hf.cells c hc
  unfold okC at this
  have e : c.1 = mx (·.1) f := e
  unfold hei
  refine ⟨by omega, by omega, by omega, fun d hd => ?_⟩
  have : d.1 ≤ mx (·.1) f := h1 d hd
  omega
theorem last_row {f : List Cell} (hf : OkF f) : ∃ z : Cell, primD .idx [fD f, .int (-1)] = some (.val (cD z)) ∧ z.1 = mx (·.1) f := by
  have hp : 0 < f.length := List.length_pos_iff.mpr hf.ne
  have ei : ixN (f.map cD).length (-1) = some (f.length - 1) := by
    unfold ixN
    rw [if_neg (by omega), if_pos (by simp only [List.length_map]; omega)]
    congr 1
    simp only [List.length_map]
    omega
  refine ⟨f[f.length - 1]'(by omega), ?_, ?_⟩
  · unfold fD
    rw [p_idxT]
    unfold atI
    rw [ei, Option.bind_some, List.getElem?_map, List.getElem?_eq_getElem (by omega)]
    rfl
  · obtain ⟨h1, ⟨c, hc, e⟩, _⟩ := mx_is (g := (·.1)) hf.ne
    have hz : (f[f.length - 1]'(by omega)).1 ≤ mx (·.1) f := h1 _ (List.getElem_mem (show f.length - 1 < f.length by omega))
    obtain ⟨k, hk, ek⟩ := List.getElem_of_mem hc
    have e : c.1 = mx (·.1) f := e
    have le : c.1 ≤ (f[f.length - 1]'(by omega)).1 := by
      by_cases hq : k = f.length - 1
      · subst hq; rw [ek]; exact Int.le_refl _
      · have := List.pairwise_iff_getElem.mp hf.rise k (f.length - 1) hk (by omega) (by omega)
        rw [ek] at this
        unfold cLt at this
        omega
    omega
theorem lineN_len (f : List Cell) (w r : Nat) : (lineN f w r).length = w := by simp [lineN]
theorem shown_line_ok (n : Nat) {f : List Cell} {w r : Nat} (hw : w ≤ 8) (hr : r ≤ 8) : callN U fuel0 (n + 1) 86 [fD f, .int (r : Int), .int (w : Int)] = some (.val (.str (tx (lineN f w r ++ [10])))) := by
  rw [call_succ U86 rfl]
  have hl' := line_ge
  simp -implicitDefEqProofs only [ir86]
  simp -implicitDefEqProofs
  rw [comp_rule0 (rs := [.val (.int (w : Int))]) (xs := List.range w) (f := fun (k : Nat) => D.int (0 + (k : Int))) (fun c => .str (tx [sgn f r c]))]
  · simp -implicitDefEqProofs only [Option.bind_some, List.map_cons, List.map_nil, seeD_lis, Option.map_some]
    rw [p_join (g := fun c => [sgn f r c]) (by rw [List.map_map, sum_const (g := List.length ∘ fun c => [sgn f r c]) (k := 1) (fun x _ => rfl)]; simp; omega)]
    have e : (List.range w).flatMap (fun c => [sgn f r c]) = lineN f w r := flat1 _ _
    rw [e]
    simp -implicitDefEqProofs only [Option.bind_some, List.map_cons, List.map_nil, seeD_val, s_nl]
    rw [p_addS (by rw [lineN_len]; simp; omega)]
    simp -implicitDefEqProofs
  · simp -implicitDefEqProofs
  · rw [items_rng1 (by unfold inR; omega)]; simp
  · simp; omega
  · intro c hc
    simp -implicitDefEqProofs
    rw [show D.tup [.int (r : Int), .int (c : Int)] = cD ((r : Int), (c : Int)) from rfl, p_inC]
    unfold sgn
    by_cases h : ((r : Int), (c : Int)) ∈ f <;> simp -implicitDefEqProofs [h, s_hash, s_dot]
theorem textN_len (f : List Cell) (w m : Nat) : (textN f w m).length = m * (w + 1) := by
  unfold textN
  rw [List.length_flatMap]
  have := sum_const (xs := List.range m) (g := fun r => (lineN f w r ++ [10]).length) (k := w + 1) (fun r _ => by simp [lineN_len])
  rw [List.length_range] at this
  exact this
theorem shown_ok (n : Nat) {f : List Cell} (hf : OkF f) : callN U fuel0 (n + 5) 87 [fD f] = some (.val (.str (tx (textN f (wid f) (hei f))))) := by
  rw [call_succ U87 rfl]
  have hl' := line_ge
  have hlen := hf.len
  have ck := checked_ok n hf
  obtain ⟨_, _, mc⟩ := mx_is (g := (·.2)) hf.ne
  obtain ⟨w1, w2, w3, _⟩ := wid_is hf
  obtain ⟨m1, m2, m3, _⟩ := hei_is hf
  obtain ⟨z, ez, zr⟩ := last_row hf
  have iz : primD .idx [cD z, .int 0] = some (.val (.int z.1)) := rfl
  simp -implicitDefEqProofs only [ir87]
  simp -implicitDefEqProofs [ck]
  rw [comp_rule0 (rs := [.val (fD f)]) (xs := f) (f := cD) (fun c => .int c.2)]
  · simp -implicitDefEqProofs only [Option.bind_some, List.map_cons, List.map_nil, seeD_lis, Option.map_some, mc]
    simp -implicitDefEqProofs [ez, iz, zr, ← w3, ← m3]
    rw [comp_rule0 (rs := [.val (.int (hei f : Int))]) (xs := List.range (hei f)) (f := fun (k : Nat) => D.int (0 + (k : Int))) (fun r => .str (tx (lineN f (wid f) r ++ [10])))]
    · simp -implicitDefEqProofs only [Option.bind_some, List.map_cons, List.map_nil, seeD_lis, Option.map_some]
      rw [p_join (g := fun r => lineN f (wid f) r ++ [10]) (by
        rw [List.map_map, sum_const (g := List.length ∘ fun r => lineN f (wid f) r ++ [10]) (k := wid f + 1) (fun x _ => by simp [lineN_len]), List.length_range]
        have : hei f * (wid f + 1) ≤ 8 * 9 := Nat.mul_le_mul m2 (by omega)
        omega)]
      simp -implicitDefEqProofs
      rfl
    · simp -implicitDefEqProofs [ez, iz, zr, ← m3]
    · rw [items_rng1 (by unfold inR; omega)]; simp
    · simp; omega
    · intro r hr
      rw [List.mem_range] at hr
      simp -implicitDefEqProofs [shown_line_ok (n + 3) (f := f) w2 (show r ≤ 8 by omega)]
  · simp -implicitDefEqProofs
  · rfl
  · omega
  · intro c hc
    simp -implicitDefEqProofs [cD]
end LK
set_option linter.all false
namespace LK
open L2.LW
theorem forLU_at {i j : Nat} {body : Env → Option (Fl × Env)} (I : Nat → Env → Prop) : ∀ {l : List D} {n : Nat} {ρ : Env}, I n ρ →
    (∀ k ρ (hk : k < l.length), I (n + k) ρ → ∃ ρ', body ((ρ.set i (some (.val (.int ((n + k : Nat) : Int))))).set j (some (.val l[k]))) = some (.nx, ρ') ∧ I (n + k + 1) ρ') →
    ∃ ρ', forLU i j body (pairsD n l) ρ = some (.nx, ρ') ∧ I (n + l.length) ρ'
  | [], n, ρ, h0, _ => ⟨ρ, rfl, h0⟩
  | d :: l, n, ρ, h0, st => by
    obtain ⟨ρ1, e1, h1⟩ := st 0 ρ (by simp) h0
    obtain ⟨ρ2, e2, h2⟩ := forLU_at I (l := l) (n := n + 1) (ρ := ρ1) h1 fun k ρ hk h => by
      have := st (k + 1) ρ (by simp; omega) (by rw [show n + (k + 1) = n + 1 + k by omega]; exact h)
      rw [show n + (k + 1) = n + 1 + k by omega] at this
      exact this
    refine ⟨ρ2, ?_, by rw [List.length_cons, show n + (l.length + 1) = n + 1 + l.length by omega]; exact h2⟩
    rw [pairsD, forLU]
    have e1' : body ((ρ.set i (some (.val (.int (n : Int))))).set j (some (.val d))) = some (.nx, ρ1) := e1
    rw [e1']
    exact e2
theorem forLU_pairs {i j : Nat} {body : Env → Option (Fl × Env)} (I : Nat → Env → Prop) {l : List D} {ρ : Env} (h0 : I 0 ρ)
    (st : ∀ k ρ (hk : k < l.length), I k ρ → ∃ ρ', body ((ρ.set i (some (.val (.int (k : Int))))).set j (some (.val l[k]))) = some (.nx, ρ') ∧ I (k + 1) ρ') :
    ∃ ρ', forLU i j body (pairsD 0 l) ρ = some (.nx, ρ') ∧ I l.length ρ' := by
  have := forLU_at (i := i) (j := j) (body := body) I (l := l) (n := 0) (ρ := ρ) h0 fun k ρ hk h => by
    have := st k ρ hk (by simpa using h)
    simpa using this
  simpa using this
noncomputable def rowC (f : List Cell) (r : Nat) (w : Nat) : List Cell := ((List.range w).filter fun (c : Nat) => decide (((r : Int), (c : Int)) ∈ f)).map fun (c : Nat) => ((r : Int), (c : Int))
theorem rowC_succ (f : List Cell) (r w : Nat) : rowC f r (w + 1) = rowC f r w ++ (if ((r : Int), (w : Int)) ∈ f then [((r : Int), (w : Int))] else []) := by
  unfold rowC
  rw [List.range_succ, List.filter_append, List.map_append]
  by_cases h : ((r : Int), (w : Int)) ∈ f <;> simp [h]
noncomputable def allC (f : List Cell) (w m : Nat) : List Cell := (List.range m).flatMap fun r => rowC f r w
theorem mem_rowC {f : List Cell} {r w : Nat} {x : Cell} : x ∈ rowC f r w ↔ x ∈ f ∧ x.1 = r ∧ 0 ≤ x.2 ∧ x.2 < w := by
  unfold rowC
  rw [List.mem_map]
  constructor
  · rintro ⟨c, hc, rfl⟩
    rw [List.mem_filter, List.mem_range] at hc
    exact ⟨by simpa using hc.2, rfl, by simp only; omega, by simp only; omega⟩
  · rintro ⟨h1, h2, h3, h4⟩
    refine ⟨x.2.toNat, ?_, ?_⟩
    · rw [List.mem_filter, List.mem_range]
      refine ⟨by omega, ?_⟩
      have : ((r : Int), ((x.2.toNat : Nat) : Int)) = x := Prod.ext h2.symm (by simp only; omega)
      rw [this]; simpa using h1
    · exact Prod.ext h2.symm (by simp only; omega)
theorem allC_is {f : List Cell} (hf : OkF f) : allC f (wid f) (hei f) = f := by
  obtain ⟨_, _, _, hw⟩ := wid_is hf
  obtain ⟨_, _, _, hm⟩ := hei_is hf
  refine rise_uniq (R := cLt) (fun a => cLt_irrefl) (fun a b => cLt_asymm) ?_ hf.rise fun x => ?_
  · unfold allC
    rw [List.pairwise_flatMap]
    refine ⟨fun r _ => ?_, ?_⟩
    · unfold rowC
      rw [List.pairwise_map]
      refine List.Pairwise.filter _ (List.pairwise_lt_range.imp fun h => ?_)
      exact Or.inr ⟨rfl, by simp only; omega⟩
    · refine List.pairwise_lt_range.imp fun {a b} h x hx y hy => ?_
      have h1 := (mem_rowC.mp hx).2.1
      have h2 := (mem_rowC.mp hy).2.1
      unfold cLt; omega
  · unfold allC
    rw [List.mem_flatMap]
    constructor
    · rintro ⟨r, _, hx⟩; exact (mem_rowC.mp hx).1
    · intro hx
      have ok := hf.cells x hx
      unfold okC at ok
      have := hm x hx
      refine ⟨x.1.toNat, List.mem_range.mpr (by omega), mem_rowC.mpr ⟨hx, by omega, by omega, hw x hx⟩⟩
theorem join_ends (c : Nat) : ∀ ps : List (List Nat), joinC c (ps ++ [[]]) = ps.flatMap fun p => p ++ [c]
  | [] => rfl
  | [p] => by simp [joinC]
  | p :: q :: r => by
    have ih := join_ends c (q :: r)
    show p ++ c :: joinC c (q :: r ++ [[]]) = _
    rw [ih]
    simp
theorem rows_text (f : List Cell) (w m : Nat) : rowsOf (tx (textN f w m)) = (List.range m).map (fun r => tx (lineN f w r)) ++ [tx []] := by
  have e : textN f w m = joinC 10 ((List.range m).map (lineN f w) ++ [[]]) := by
    rw [join_ends, List.flatMap_map]; rfl
  have fr : ∀ p ∈ (List.range m).map (lineN f w) ++ [[]], 10 ∉ p := fun p hp => by
    rw [List.mem_append, List.mem_map] at hp
    rcases hp with ⟨r, _, rfl⟩ | hp
    · unfold lineN
      rw [List.mem_map]
      rintro ⟨c, _, h⟩
      unfold sgn at h
      split at h <;> omega
    · simp at hp; subst hp; simp
  unfold rowsOf
  rw [show (tx (textN f w m)).cps.toList = textN f w m by simp [tx], e, cut_join (by simp) fr, List.map_append, List.map_map]
  rfl
theorem signs_line (f : List Cell) (w r : Nat) : signsD (tx (lineN f w r)) = (List.range w).map fun c => D.str (tx [sgn f r c]) := by
  unfold signsD lineN
  simp [tx]
theorem eq_hash {f : List Cell} {r c : Nat} : primD .eqS [.str (tx [sgn f r c]), .str (tx [35])] = some (.val (.bl (decide (((r : Int), (c : Int)) ∈ f)))) := by
  simp only [primD, pEqS]
  congr 3
  rw [Bool.eq_iff_iff, decide_eq_true_iff, decide_eq_true_iff]
  unfold sgn
  constructor
  · intro h
    have := tx_inj h
    split at this
    · assumption
    · simp at this
  · intro h; rw [if_pos h]
noncomputable def ciE (t : PySem.Str) (acc : List Cell) (s2 s3 s4 s5 : Option SV) : Env := [some (.val (.str t)), some (.obj true (lD acc)), s2, s3, s4, s5]
theorem rowC_len (f : List Cell) (r w : Nat) : (rowC f r w).length ≤ w := by
  unfold rowC
  rw [List.length_map]
  exact Nat.le_trans (List.length_filter_le _ _) (by simp)
theorem app_lD {ρ : Env} {i : Nat} {c : Cell} {w : List Cell} (h : w.length < line) : appS ρ i (some (.val (cD c))) (some (some (.obj true (lD w)))) = some (.nx, ρ.set i (some (.obj true (lD (w ++ [c]))))) := by
  rw [lD, appS_lis]
  simp only [Option.bind_some, toD_val, List.length_map, h, if_true]
  simp [lD]
theorem ci_row (n : Nat) {f : List Cell} {w r : Nat} {t : PySem.Str} {acc : List Cell} {s4 s5 : Option SV} (hw : w ≤ 8) (ha : acc.length ≤ 1000) (h4 : freeS (some s4) = true) (h5 : freeS (some s5) = true) :
    ∃ s4' s5', exSs (callA U fuel0 n) fuel0 ir98b1 (ciE t acc (some (.val (.int (r : Int)))) (some (.val (.str (tx (lineN f w r))))) s4 s5) = some (.nx, ciE t (acc ++ rowC f r w) (some (.val (.int (r : Int)))) (some (.val (.str (tx (lineN f w r))))) s4' s5') ∧ freeS (some s4') = true ∧ freeS (some s5') = true := by
  have hl' := line_ge
  obtain ⟨ρ', e, s4', s5', rfl, q4, q5⟩ := forLU_pairs (i := 4) (j := 5) (body := exSs (callA U fuel0 n) fuel0 ir98b0) (l := (List.range w).map fun c => D.str (tx [sgn f r c]))
    (ρ := ciE t acc (some (.val (.int (r : Int)))) (some (.val (.str (tx (lineN f w r))))) s4 s5)
    (fun k ρ => ∃ s4' s5', ρ = ciE t (acc ++ rowC f r k) (some (.val (.int (r : Int)))) (some (.val (.str (tx (lineN f w r))))) s4' s5' ∧ freeS (some s4') = true ∧ freeS (some s5') = true)
    ⟨s4, s5, by simp [rowC], h4, h5⟩ (by
      rintro k ρ hk ⟨a4, a5, rfl, g4, g5⟩
      have hk : k < w := by simpa using hk
      have lr := rowC_len f r k
      refine ⟨_, ?_, some (.val (.int (k : Int))), some (.val (.str (tx [sgn f r k]))), rfl, freeS_val, freeS_val⟩
      rw [rowC_succ]
      simp -implicitDefEqProofs only [ir98b0, ciE, List.set_cons_succ, List.set_cons_zero, List.getElem_map, List.getElem_range]
      by_cases h : ((r : Int), (k : Int)) ∈ f
      · have ap : ∀ (ρ : Env), appS ρ 1 (some (.val (.tup [.int (r : Int), .int (k : Int)]))) (some (some (.obj true (lD (acc ++ rowC f r k))))) = some (.nx, ρ.set 1 (some (.obj true (lD (acc ++ (rowC f r k ++ [((r : Int), (k : Int))])))))) := fun ρ => by
          have := app_lD (ρ := ρ) (i := 1) (c := ((r : Int), (k : Int))) (w := acc ++ rowC f r k) (by rw [List.length_append]; omega)
          rw [List.append_assoc] at this
          exact this
        simp -implicitDefEqProofs [s_hash, eq_hash, h, ap]
      · simp -implicitDefEqProofs [s_hash, eq_hash, h])
  refine ⟨s4', s5', ?_, q4, q5⟩
  have hd : enumD (.val (.str (tx (lineN f w r)))) = some (pairsD 0 ((List.range w).map fun c => D.str (tx [sgn f r c]))) := by
    rw [← signs_line]; rfl
  simp -implicitDefEqProofs only [ir98b1]
  simp -implicitDefEqProofs [exS_forE, ciE, h4, h5, hd]
  rw [← ciE, e, List.length_map, List.length_range]
  simp -implicitDefEqProofs [ciE]
theorem allC_len (f : List Cell) (w m : Nat) : (allC f w m).length ≤ m * w := by
  unfold allC
  rw [List.length_flatMap]
  have : ∀ l : List Nat, (l.map fun r => (rowC f r w).length).sum ≤ l.length * w := fun l => by
    induction l with
    | nil => simp
    | cons a r ih =>
      rw [List.map_cons, List.sum_cons, List.length_cons, Nat.succ_mul]
      have := rowC_len f a w
      omega
  have := this (List.range m)
  rwa [List.length_range] at this
theorem allC_succ (f : List Cell) (w m : Nat) : allC f w (m + 1) = allC f w m ++ rowC f m w := by
  unfold allC
  rw [List.range_succ, List.flatMap_append]
  simp
theorem cells_in_ok (n : Nat) {f : List Cell} (hf : OkF f) : callN U fuel0 (n + 1) 98 [.str (tx (textN f (wid f) (hei f)))] = some (.val (fD f)) := by
  have hl' := line_ge
  obtain ⟨w1, w2, w3, _⟩ := wid_is hf
  obtain ⟨m1, m2, m3, _⟩ := hei_is hf
  have eL : ((rowsOf (tx (textN f (wid f) (hei f)))).map D.str).length = hei f + 1 := by rw [rows_text]; simp
  obtain ⟨ρ', e, s2, s3, s4, s5, rfl, q2, q3, q4, q5⟩ := forLU_pairs (i := 2) (j := 3) (body := exSs (callA U fuel0 n) fuel0 ir98b1) (l := (rowsOf (tx (textN f (wid f) (hei f)))).map D.str)
    (ρ := ciE (tx (textN f (wid f) (hei f))) [] none none none none)
    (fun k ρ => ∃ s2 s3 s4 s5, ρ = ciE (tx (textN f (wid f) (hei f))) (allC f (wid f) (min k (hei f))) s2 s3 s4 s5 ∧ freeS (some s2) = true ∧ freeS (some s3) = true ∧ freeS (some s4) = true ∧ freeS (some s5) = true)
    ⟨none, none, none, none, by simp [allC], rfl, rfl, rfl, rfl⟩ (by
      rintro k ρ hk ⟨a2, a3, a4, a5, rfl, g2, g3, g4, g5⟩
      have hk' : k < hei f + 1 := by rw [← eL]; exact hk
      by_cases hm : k < hei f
      · have hlen : (allC f (wid f) k).length ≤ 1000 := by
          have := allC_len f (wid f) k
          have : k * wid f ≤ 8 * 8 := Nat.mul_le_mul (by omega) w2
          omega
        obtain ⟨b4, b5, eb, h4, h5⟩ := ci_row n (f := f) (w := wid f) (r := k) (t := tx (textN f (wid f) (hei f))) (acc := allC f (wid f) k) w2 hlen g4 g5
        have ek : ((rowsOf (tx (textN f (wid f) (hei f)))).map D.str)[k] = D.str (tx (lineN f (wid f) k)) := by
          have : ((rowsOf (tx (textN f (wid f) (hei f)))).map D.str)[k]? = some (D.str (tx (lineN f (wid f) k))) := by
            rw [rows_text]
            simp [List.getElem?_append, hm]
          rw [List.getElem?_eq_getElem hk] at this
          exact Option.some.inj this
        refine ⟨_, ?_, some (.val (.int (k : Int))), some (.val (.str (tx (lineN f (wid f) k)))), _, _, rfl, freeS_val, freeS_val, h4, h5⟩
        rw [ek, show min k (hei f) = k by omega, show min (k + 1) (hei f) = k + 1 by omega, allC_succ]
        exact eb
      · have hm : k = hei f := by omega
        subst hm
        obtain ⟨b4, b5, eb, h4, h5⟩ := ci_row n (f := f) (w := 0) (r := hei f) (t := tx (textN f (wid f) (hei f))) (acc := allC f (wid f) (hei f)) (by omega) (by
          have := allC_len f (wid f) (hei f)
          have : hei f * wid f ≤ 8 * 8 := Nat.mul_le_mul (by omega) w2
          omega) g4 g5
        have ek : ((rowsOf (tx (textN f (wid f) (hei f)))).map D.str)[hei f] = D.str (tx (lineN f 0 (hei f))) := by
          have : ((rowsOf (tx (textN f (wid f) (hei f)))).map D.str)[hei f]? = some (D.str (tx (lineN f 0 (hei f)))) := by
            rw [rows_text]
            simp [List.getElem?_append, lineN]
          rw [List.getElem?_eq_getElem hk] at this
          exact Option.some.inj this
        refine ⟨_, ?_, some (.val (.int (hei f : Int))), some (.val (.str (tx (lineN f 0 (hei f))))), _, _, rfl, freeS_val, freeS_val, h4, h5⟩
        rw [ek, show min (hei f) (hei f) = hei f by omega, show min (hei f + 1) (hei f) = hei f by omega]
        rw [show rowC f (hei f) 0 = [] from rfl, List.append_nil] at eb
        exact eb)
  rw [eL, show min (hei f + 1) (hei f) = hei f by omega, allC_is hf] at e
  have hs : primD .splitN [.str (tx (textN f (wid f) (hei f)))] = some (.obj true (.lst ((rowsOf (tx (textN f (wid f) (hei f)))).map D.str))) := by
    have : (tx (textN f (wid f) (hei f))).length ≤ 10000000 := by
      rw [tx_len, textN_len]
      have : hei f * (wid f + 1) ≤ 8 * 9 := Nat.mul_le_mul m2 (by omega)
      omega
    simp only [primD, pSplitN, if_pos this]
  have hd : enumD (.obj true (.lst ((rowsOf (tx (textN f (wid f) (hei f)))).map D.str))) = some (pairsD 0 ((rowsOf (tx (textN f (wid f) (hei f)))).map D.str)) := rfl
  generalize textN f (wid f) (hei f) = t at *
  rw [call_succ U98 rfl]
  simp -implicitDefEqProofs only [ir98]
  simp -implicitDefEqProofs [exS_forE, hs, hd]
  rw [show (D.lst []) = lD [] from rfl, ← ciE, e]
  simp -implicitDefEqProofs [ciE, lD, fD]
theorem p_neSS {a b : PySem.Str} : primD .neS [.str a, .str b] = some (.val (.bl (!decide (a = b)))) := rfl
theorem p_eqSS {a b : PySem.Str} : primD .eqS [.str a, .str b] = some (.val (.bl (decide (a = b)))) := rfl
theorem read_ok (n : Nat) {f : List Cell} (hf : OkF f) : callN U fuel0 (n + 6) 99 [.str (tx (textN f (wid f) (hei f)))] = some (.val (fD f)) := by
  rw [call_succ U99 rfl]
  have h1 := cells_in_ok (n + 4) hf
  have h2 := is_floor_ok (n + 2) hf
  have h3 := shown_ok n hf
  generalize textN f (wid f) (hei f) = t at *
  have hi : primD (.inst .str) [.str (tx t)] = some (.val (.bl true)) := rfl
  simp -implicitDefEqProofs only [ir99]
  simp -implicitDefEqProofs [h1, h2, h3, hi, p_neSS]
end LK
set_option linter.all false
namespace LK
open L2.LW
noncomputable def lwE (ns : List Int) (f : List Cell) (t : List Nat) (s3 s4 s5 : Option SV) : Env := [some (.val (sD ns)), some (.val (fD f)), some (.val (.str (tx t))), s3, s4, s5]
theorem k18_row (n : Nat) (ns : List Int) {f : List Cell} (hf : OkF f) {t : List Nat} {r : Nat} {s4 s5 : Option SV} (ht : t.length ≤ 500) (h4 : freeS (some s4) = true) :
    ∃ s4', exSs (callA U fuel0 n) fuel0 ir103b1 (lwE ns f t (some (.val (.int (r : Int)))) s4 s5) = some (.nx, lwE ns f (t ++ (lineN f (wid f) r ++ [10])) (some (.val (.int (r : Int)))) s4' s5) ∧ freeS (some s4') = true := by
  have hl' := line_ge
  have hlen := hf.len
  obtain ⟨_, _, mc⟩ := mx_is (g := (·.2)) hf.ne
  obtain ⟨w1, w2, w3, _⟩ := wid_is hf
  obtain ⟨ρ', e, s4', rfl, q4⟩ := forL_rng (i := 4) (body := exSs (callA U fuel0 n) fuel0 ir103b0) (a := 0) (m := wid f)
    (ρ := lwE ns f t (some (.val (.int (r : Int)))) s4 s5)
    (fun k ρ => ∃ s4', ρ = lwE ns f (t ++ lineN f k r) (some (.val (.int (r : Int)))) s4' s5 ∧ freeS (some s4') = true)
    ⟨s4, by simp [lineN], h4⟩ (by
      rintro k ρ hk ⟨a4, rfl, g4⟩
      refine ⟨.nx, _, ?_, .inl rfl, some (.val (.int (k : Int))), rfl, freeS_val⟩
      have el : lineN f (k + 1) r = lineN f k r ++ [sgn f r k] := by
        unfold lineN; rw [List.range_succ, List.map_append]; rfl
      have ll := lineN_len f k r
      rw [el, ← List.append_assoc]
      have ad := p_addS (a := t ++ lineN f k r) (b := [sgn f r k]) (by simp only [List.length_append, List.length_singleton]; omega)
      have ix : ∀ b : Bool, primD .idx [.lst [.str (tx [46]), .str (tx [35])], .int (if b then 1 else 0)] = some (.val (.str (tx [if b then 35 else 46]))) := fun b => by cases b <;> rfl
      simp -implicitDefEqProofs only [ir103b0, lwE, List.set_cons_succ, List.set_cons_zero]
      generalize t ++ lineN f k r = u at *
      simp -implicitDefEqProofs
      rw [show D.tup [.int (r : Int), .int (k : Int)] = cD ((r : Int), (k : Int)) from rfl, p_inC]
      have ix := ix (decide (((r : Int), (k : Int)) ∈ f))
      have es : (if decide (((r : Int), (k : Int)) ∈ f) = true then 35 else 46) = sgn f r k := by unfold sgn; simp
      rw [es] at ix
      simp -implicitDefEqProofs only [Option.bind_some, List.map_cons, List.map_nil, seeD_val, p_intOfB, s_hash, s_dot, ix, ad]
      simp -implicitDefEqProofs only [Function.comp, Option.map_some, Option.bind_some, List.map_cons, List.map_nil, seeD_val, seeD_lis, ix, ad]
      simp -implicitDefEqProofs)
  refine ⟨s4', ?_, q4⟩
  simp -implicitDefEqProofs only [ir103b1, exSs_cons, exS_for]
  simp -implicitDefEqProofs [lwE, h4]
  rw [comp_rule0 (rs := [.val (fD f)]) (xs := f) (f := cD) (fun c => .int c.2)]
  · simp -implicitDefEqProofs only [Option.bind_some, List.map_cons, List.map_nil, seeD_lis, Option.map_some, mc]
    simp -implicitDefEqProofs [← w3]
    rw [items_rng1 (by unfold inR; omega), Int.toNat_natCast, ← lwE]
    simp -implicitDefEqProofs only [Option.bind_some]
    rw [e]
    have ll := lineN_len f (wid f) r
    have ad := p_addS (a := t ++ lineN f (wid f) r) (b := [10]) (by simp only [List.length_append, List.length_singleton]; omega)
    rw [← List.append_assoc]
    generalize t ++ lineN f (wid f) r = u at *
    simp -implicitDefEqProofs [lwE, s_nl, ad]
  · simp -implicitDefEqProofs
  · rfl
  · omega
  · intro c hc
    simp -implicitDefEqProofs [cD]
theorem textN_succ (f : List Cell) (w m : Nat) : textN f w (m + 1) = textN f w m ++ (lineN f w m ++ [10]) := by
  unfold textN
  rw [List.range_succ, List.flatMap_append]
  simp
theorem p_eqFF {a b : List Cell} : primD .eq [fD a, fD b] = some (.val (.bl (decide (a = b)))) := by
  rw [fD, fD, p_eq (by simp [shal]) (by simp [shal])]
  simp [eqD]
theorem law_k18 (n : Nat) (ns : List Int) : callN U fuel0 (n + 7) 103 [sD ns] = some (.val (.bl true)) := by
  have hl' := line_ge
  obtain ⟨f, hf, _, e1⟩ := law_floor_ok (n + 4) ns (at_ := 1) (most := 24) (by decide) (by decide) (by decide)
  have hlen := hf.len
  obtain ⟨_, _, mc⟩ := mx_is (g := (·.1)) hf.ne
  obtain ⟨w1, w2, w3, _⟩ := wid_is hf
  obtain ⟨m1, m2, m3, _⟩ := hei_is hf
  have sh := shown_ok (n + 1) hf
  have rd := read_ok n hf
  obtain ⟨ρ', e, s3', s4', rfl, q3, q4⟩ := forL_rng (i := 3) (body := exSs (callA U fuel0 (n + 6)) fuel0 ir103b1) (a := 0) (m := hei f)
    (ρ := lwE ns f [] none none none)
    (fun k ρ => ∃ s3' s4', ρ = lwE ns f (textN f (wid f) k) s3' s4' none ∧ freeS (some s3') = true ∧ freeS (some s4') = true)
    ⟨none, none, rfl, rfl, rfl⟩ (by
      rintro k ρ hk ⟨a3, a4, rfl, g3, g4⟩
      obtain ⟨b4, eb, h4⟩ := k18_row (n + 6) ns hf (t := textN f (wid f) k) (r := k) (s4 := a4) (s5 := none) (by
        rw [textN_len]
        have : k * (wid f + 1) ≤ 8 * 9 := Nat.mul_le_mul (by omega) (by omega)
        omega) g4
      refine ⟨.nx, _, ?_, .inl rfl, some (.val (.int (k : Int))), b4, rfl, freeS_val, h4⟩
      rw [textN_succ, ← eb]
      simp -implicitDefEqProofs only [lwE, List.set_cons_succ, List.set_cons_zero, Int.zero_add])
  generalize textN f (wid f) (hei f) = t at *
  have hi : primD (.inst .str) [.str (tx t)] = some (.val (.bl true)) := rfl
  rw [call_succ U103 rfl]
  simp -implicitDefEqProofs only [ir103]
  simp -implicitDefEqProofs [e1, exS_for]
  rw [comp_rule0 (rs := [.val (fD f)]) (xs := f) (f := cD) (fun c => .int c.1)]
  · simp -implicitDefEqProofs only [Option.bind_some, List.map_cons, List.map_nil, seeD_lis, Option.map_some, mc]
    simp -implicitDefEqProofs [← m3]
    rw [items_rng1 (by unfold inR; omega), Int.toNat_natCast, s_mt, ← lwE]
    simp -implicitDefEqProofs only [Option.bind_some]
    rw [e]
    simp -implicitDefEqProofs [lwE, sh, rd, hi, p_eqSS, p_eqFF]
  · simp -implicitDefEqProofs
  · rfl
  · omega
  · intro c hc
    simp -implicitDefEqProofs [cD]
theorem law_true_k18 (ns : List Int) (_ : ns.length ≤ 63) : callN U fuel0 depth 103 [.lst (ns.map D.int)] = some (.val (.bl true)) := law_k18 33 ns
end LK
set_option maxHeartbeats 4000000
namespace LK
open PySem PySem.Spec PyProof.Rows L2 L2.LW
noncomputable def top (i : Nat) : Stmt := PySem.Challenge.pw_leaperwalk_k18_texts.main.body.getD i (.Pass ⟨0, 0, 0, 0⟩)
noncomputable def psOf : Nat → List Str
  | 0 => ["thing", "least", "most"]
  | 1 => ["thing"]
  | 2 => ["thing"]
  | 4 => ["cells"]
  | 5 => ["thing"]
  | 6 => ["floor"]
  | 13 => ["_law_script", "_law_k"]
  | 14 => ["_law_cell_here", "_law_prime", "_law_many"]
  | 15 => ["_law_script", "_law_at", "_law_most"]
  | 86 => ["floor", "row", "width"]
  | 87 => ["floor"]
  | 98 => ["text"]
  | 99 => ["text"]
  | 103 => ["_law_script"]
  | _ => []
noncomputable def ioOf : Nat → List Nat
  | _ => []
structure Txt (K : PySem.W.Frag) (mg : Str → Option Value) (F : Nat → Addr) (FD : Nat → FuncData) (TK : Nat → Tok) : Prop where
  m0 : mg "is_whole" = some (.ref (F 0))
  f0 : Fun K "is_whole" "is_whole" (top 7) (F 0) (FD 0)
  b0 : Binds K (FD 0) (psOf 0) []
  m1 : mg "is_couple" = some (.ref (F 1))
  f1 : Fun K "is_couple" "is_couple" (top 8) (F 1) (FD 1)
  b1 : Binds K (FD 1) (psOf 1) []
  m2 : mg "is_cell" = some (.ref (F 2))
  f2 : Fun K "is_cell" "is_cell" (top 9) (F 2) (FD 2)
  b2 : Binds K (FD 2) (psOf 2) []
  m4 : mg "is_rising" = some (.ref (F 4))
  f4 : Fun K "is_rising" "is_rising" (top 10) (F 4) (FD 4)
  b4 : Binds K (FD 4) (psOf 4) []
  m5 : mg "is_floor" = some (.ref (F 5))
  f5 : Fun K "is_floor" "is_floor" (top 11) (F 5) (FD 5)
  b5 : Binds K (FD 5) (psOf 5) []
  m6 : mg "checked" = some (.ref (F 6))
  f6 : Fun K "checked" "checked" (top 12) (F 6) (FD 6)
  b6 : Binds K (FD 6) (psOf 6) []
  m13 : mg "_law_cell" = some (.ref (F 13))
  f13 : Fun K "_law_cell" "_law_cell" (top 19) (F 13) (FD 13)
  b13 : Binds K (FD 13) (psOf 13) []
  m14 : mg "_law_mix" = some (.ref (F 14))
  f14 : Fun K "_law_mix" "_law_mix" (top 20) (F 14) (FD 14)
  b14 : Binds K (FD 14) (psOf 14) []
  m15 : mg "_law_floor" = some (.ref (F 15))
  f15 : Fun K "_law_floor" "_law_floor" (top 21) (F 15) (FD 15)
  b15 : Binds K (FD 15) (psOf 15) []
  m86 : mg "shown_line" = some (.ref (F 86))
  f86 : Fun K "shown_line" "shown_line" (top 14) (F 86) (FD 86)
  b86 : Binds K (FD 86) (psOf 86) []
  m87 : mg "shown" = some (.ref (F 87))
  f87 : Fun K "shown" "shown" (top 15) (F 87) (FD 87)
  b87 : Binds K (FD 87) (psOf 87) []
  m98 : mg "cells_in" = some (.ref (F 98))
  f98 : Fun K "cells_in" "cells_in" (top 16) (F 98) (FD 98)
  b98 : Binds K (FD 98) (psOf 98) []
  m99 : mg "read" = some (.ref (F 99))
  f99 : Fun K "read" "read" (top 17) (F 99) (FD 99)
  b99 : Binds K (FD 99) (psOf 99) []
  m103 : mg "law" = some (.ref (F 103))
  f103 : Fun K "law" "law" (top 22) (F 103) (FD 103)
  b103 : Binds K (FD 103) (psOf 103) []
  z_isinstance : mg "isinstance" = none
  z_int : mg "int" = none
  z_bool : mg "bool" = none
  z_len : mg "len" = none
  z_tuple : mg "tuple" = none
  z_range : mg "range" = none
  z_all : mg "all" = none
  z_max : mg "max" = none
  z_enumerate : mg "enumerate" = none
  z_str : mg "str" = none
  c0 : mg "LAST_LINE" = some (.int 7 (TK 0))
  c1 : mg "MOST_CELLS" = some (.int 24 (TK 1))
theorem dd_least : (("least" : Str) == ("__debug__" : Str)) = false := by decide +kernel
theorem dc_least : (("least" : Str) == ("__classdict__" : Str)) = false := by decide +kernel
theorem dd_thing : (("thing" : Str) == ("__debug__" : Str)) = false := by decide +kernel
theorem dc_thing : (("thing" : Str) == ("__classdict__" : Str)) = false := by decide +kernel
theorem dd_most : (("most" : Str) == ("__debug__" : Str)) = false := by decide +kernel
theorem dc_most : (("most" : Str) == ("__classdict__" : Str)) = false := by decide +kernel
theorem dd_int : (("int" : Str) == ("__debug__" : Str)) = false := by decide +kernel
theorem dn_int : ("int" : Str) ≠ "__name__" := by decide +kernel
theorem dd_bool : (("bool" : Str) == ("__debug__" : Str)) = false := by decide +kernel
theorem dn_bool : ("bool" : Str) ≠ "__name__" := by decide +kernel
theorem dd_len : (("len" : Str) == ("__debug__" : Str)) = false := by decide +kernel
theorem dn_len : ("len" : Str) ≠ "__name__" := by decide +kernel
theorem dd_tuple : (("tuple" : Str) == ("__debug__" : Str)) = false := by decide +kernel
theorem dn_tuple : ("tuple" : Str) ≠ "__name__" := by decide +kernel
theorem dd_LAST_LINE : (("LAST_LINE" : Str) == ("__debug__" : Str)) = false := by decide +kernel
theorem dd_is_whole : (("is_whole" : Str) == ("__debug__" : Str)) = false := by decide +kernel
theorem dd_is_couple : (("is_couple" : Str) == ("__debug__" : Str)) = false := by decide +kernel
theorem dd_cells : (("cells" : Str) == ("__debug__" : Str)) = false := by decide +kernel
theorem dc_cells : (("cells" : Str) == ("__classdict__" : Str)) = false := by decide +kernel
theorem dd_place : (("place" : Str) == ("__debug__" : Str)) = false := by decide +kernel
theorem dc_place : (("place" : Str) == ("__classdict__" : Str)) = false := by decide +kernel
theorem dd_all : (("all" : Str) == ("__debug__" : Str)) = false := by decide +kernel
theorem dn_all : ("all" : Str) ≠ "__name__" := by decide +kernel
theorem dd_is_rising : (("is_rising" : Str) == ("__debug__" : Str)) = false := by decide +kernel
theorem dd_part : (("part" : Str) == ("__debug__" : Str)) = false := by decide +kernel
theorem dc_part : (("part" : Str) == ("__classdict__" : Str)) = false := by decide +kernel
theorem dd_is_cell : (("is_cell" : Str) == ("__debug__" : Str)) = false := by decide +kernel
theorem dd_MOST_CELLS : (("MOST_CELLS" : Str) == ("__debug__" : Str)) = false := by decide +kernel
theorem dd_floor : (("floor" : Str) == ("__debug__" : Str)) = false := by decide +kernel
theorem dc_floor : (("floor" : Str) == ("__classdict__" : Str)) = false := by decide +kernel
theorem dd_is_floor : (("is_floor" : Str) == ("__debug__" : Str)) = false := by decide +kernel
theorem dd_width : (("width" : Str) == ("__debug__" : Str)) = false := by decide +kernel
theorem dc_width : (("width" : Str) == ("__classdict__" : Str)) = false := by decide +kernel
theorem dd_column : (("column" : Str) == ("__debug__" : Str)) = false := by decide +kernel
theorem dc_column : (("column" : Str) == ("__classdict__" : Str)) = false := by decide +kernel
theorem dd_row : (("row" : Str) == ("__debug__" : Str)) = false := by decide +kernel
theorem dc_row : (("row" : Str) == ("__classdict__" : Str)) = false := by decide +kernel
theorem dd_shown_line : (("shown_line" : Str) == ("__debug__" : Str)) = false := by decide +kernel
theorem dd_cell : (("cell" : Str) == ("__debug__" : Str)) = false := by decide +kernel
theorem dc_cell : (("cell" : Str) == ("__classdict__" : Str)) = false := by decide +kernel
theorem dd_max : (("max" : Str) == ("__debug__" : Str)) = false := by decide +kernel
theorem dn_max : ("max" : Str) ≠ "__name__" := by decide +kernel
theorem dd_checked : (("checked" : Str) == ("__debug__" : Str)) = false := by decide +kernel
theorem dd_text : (("text" : Str) == ("__debug__" : Str)) = false := by decide +kernel
theorem dc_text : (("text" : Str) == ("__classdict__" : Str)) = false := by decide +kernel
theorem dd_line : (("line" : Str) == ("__debug__" : Str)) = false := by decide +kernel
theorem dc_line : (("line" : Str) == ("__classdict__" : Str)) = false := by decide +kernel
theorem dd_sign : (("sign" : Str) == ("__debug__" : Str)) = false := by decide +kernel
theorem dc_sign : (("sign" : Str) == ("__classdict__" : Str)) = false := by decide +kernel
theorem dd_shown : (("shown" : Str) == ("__debug__" : Str)) = false := by decide +kernel
theorem dd_cells_in : (("cells_in" : Str) == ("__debug__" : Str)) = false := by decide +kernel
theorem dd_str : (("str" : Str) == ("__debug__" : Str)) = false := by decide +kernel
theorem dn_str : ("str" : Str) ≠ "__name__" := by decide +kernel
theorem dd__law_k : (("_law_k" : Str) == ("__debug__" : Str)) = false := by decide +kernel
theorem dc__law_k : (("_law_k" : Str) == ("__classdict__" : Str)) = false := by decide +kernel
theorem dd__law_script : (("_law_script" : Str) == ("__debug__" : Str)) = false := by decide +kernel
theorem dc__law_script : (("_law_script" : Str) == ("__classdict__" : Str)) = false := by decide +kernel
theorem dd__law_cell_here : (("_law_cell_here" : Str) == ("__debug__" : Str)) = false := by decide +kernel
theorem dc__law_cell_here : (("_law_cell_here" : Str) == ("__classdict__" : Str)) = false := by decide +kernel
theorem dd__law_prime : (("_law_prime" : Str) == ("__debug__" : Str)) = false := by decide +kernel
theorem dc__law_prime : (("_law_prime" : Str) == ("__classdict__" : Str)) = false := by decide +kernel
theorem dd__law_many : (("_law_many" : Str) == ("__debug__" : Str)) = false := by decide +kernel
theorem dc__law_many : (("_law_many" : Str) == ("__classdict__" : Str)) = false := by decide +kernel
theorem dd__law_found : (("_law_found" : Str) == ("__debug__" : Str)) = false := by decide +kernel
theorem dc__law_found : (("_law_found" : Str) == ("__classdict__" : Str)) = false := by decide +kernel
theorem dd__law_most : (("_law_most" : Str) == ("__debug__" : Str)) = false := by decide +kernel
theorem dc__law_most : (("_law_most" : Str) == ("__classdict__" : Str)) = false := by decide +kernel
theorem dd__law_right : (("_law_right" : Str) == ("__debug__" : Str)) = false := by decide +kernel
theorem dc__law_right : (("_law_right" : Str) == ("__classdict__" : Str)) = false := by decide +kernel
theorem dd__law_down : (("_law_down" : Str) == ("__debug__" : Str)) = false := by decide +kernel
theorem dc__law_down : (("_law_down" : Str) == ("__classdict__" : Str)) = false := by decide +kernel
theorem dd__law_rows : (("_law_rows" : Str) == ("__debug__" : Str)) = false := by decide +kernel
theorem dc__law_rows : (("_law_rows" : Str) == ("__classdict__" : Str)) = false := by decide +kernel
theorem dd__law_wide : (("_law_wide" : Str) == ("__debug__" : Str)) = false := by decide +kernel
theorem dc__law_wide : (("_law_wide" : Str) == ("__classdict__" : Str)) = false := by decide +kernel
theorem dd__law_way : (("_law_way" : Str) == ("__debug__" : Str)) = false := by decide +kernel
theorem dc__law_way : (("_law_way" : Str) == ("__classdict__" : Str)) = false := by decide +kernel
theorem dd__law_seed : (("_law_seed" : Str) == ("__debug__" : Str)) = false := by decide +kernel
theorem dc__law_seed : (("_law_seed" : Str) == ("__classdict__" : Str)) = false := by decide +kernel
theorem dd__law_mix : (("_law_mix" : Str) == ("__debug__" : Str)) = false := by decide +kernel
theorem dd__law_c : (("_law_c" : Str) == ("__debug__" : Str)) = false := by decide +kernel
theorem dc__law_c : (("_law_c" : Str) == ("__classdict__" : Str)) = false := by decide +kernel
theorem dd__law_r : (("_law_r" : Str) == ("__debug__" : Str)) = false := by decide +kernel
theorem dc__law_r : (("_law_r" : Str) == ("__classdict__" : Str)) = false := by decide +kernel
theorem dd__law_at : (("_law_at" : Str) == ("__debug__" : Str)) = false := by decide +kernel
theorem dc__law_at : (("_law_at" : Str) == ("__classdict__" : Str)) = false := by decide +kernel
theorem dd__law_cell : (("_law_cell" : Str) == ("__debug__" : Str)) = false := by decide +kernel
theorem dd__law_text : (("_law_text" : Str) == ("__debug__" : Str)) = false := by decide +kernel
theorem dc__law_text : (("_law_text" : Str) == ("__classdict__" : Str)) = false := by decide +kernel
theorem dd_read : (("read" : Str) == ("__debug__" : Str)) = false := by decide +kernel
theorem dd__law_floor_here : (("_law_floor_here" : Str) == ("__debug__" : Str)) = false := by decide +kernel
theorem dc__law_floor_here : (("_law_floor_here" : Str) == ("__classdict__" : Str)) = false := by decide +kernel
theorem dd__law_due : (("_law_due" : Str) == ("__debug__" : Str)) = false := by decide +kernel
theorem dc__law_due : (("_law_due" : Str) == ("__classdict__" : Str)) = false := by decide +kernel
theorem dd__law_column : (("_law_column" : Str) == ("__debug__" : Str)) = false := by decide +kernel
theorem dc__law_column : (("_law_column" : Str) == ("__classdict__" : Str)) = false := by decide +kernel
theorem dd__law_row : (("_law_row" : Str) == ("__debug__" : Str)) = false := by decide +kernel
theorem dc__law_row : (("_law_row" : Str) == ("__classdict__" : Str)) = false := by decide +kernel
theorem dd__law_floor : (("_law_floor" : Str) == ("__debug__" : Str)) = false := by decide +kernel
theorem sc0 : FnScope ["thing", "least", "most"] ["thing", "least", "most"] (defScope (top 7)) := ⟨rfl, rfl, rfl, by decide +kernel, rfl, by decide +kernel, by decide +kernel⟩
theorem v0_least : Vis (defScope (top 7)) "least" := .inl (by decide +kernel)
theorem v0_thing : Vis (defScope (top 7)) "thing" := .inl (by decide +kernel)
theorem v0_most : Vis (defScope (top 7)) "most" := .inl (by decide +kernel)
theorem g0_isinstance : (defScope (top 7)).names.lookup ("isinstance" : Str) = some .globalImplicit := by decide +kernel
theorem g0_int : (defScope (top 7)).names.lookup ("int" : Str) = some .globalImplicit := by decide +kernel
theorem g0_bool : (defScope (top 7)).names.lookup ("bool" : Str) = some .globalImplicit := by decide +kernel
theorem sc1 : FnScope ["thing"] ["thing"] (defScope (top 8)) := ⟨rfl, rfl, rfl, by decide +kernel, rfl, by decide +kernel, by decide +kernel⟩
theorem v1_thing : Vis (defScope (top 8)) "thing" := .inl (by decide +kernel)
theorem g1_len : (defScope (top 8)).names.lookup ("len" : Str) = some .globalImplicit := by decide +kernel
theorem g1_isinstance : (defScope (top 8)).names.lookup ("isinstance" : Str) = some .globalImplicit := by decide +kernel
theorem g1_tuple : (defScope (top 8)).names.lookup ("tuple" : Str) = some .globalImplicit := by decide +kernel
theorem sc2 : FnScope ["thing"] ["thing"] (defScope (top 9)) := ⟨rfl, rfl, rfl, by decide +kernel, rfl, by decide +kernel, by decide +kernel⟩
theorem v2_thing : Vis (defScope (top 9)) "thing" := .inl (by decide +kernel)
theorem g2_LAST_LINE : (defScope (top 9)).names.lookup ("LAST_LINE" : Str) = some .globalImplicit := by decide +kernel
theorem g2_is_whole : (defScope (top 9)).names.lookup ("is_whole" : Str) = some .globalImplicit := by decide +kernel
theorem g2_is_couple : (defScope (top 9)).names.lookup ("is_couple" : Str) = some .globalImplicit := by decide +kernel
theorem sc4 : FnScope ["cells"] ["cells"] (defScope (top 10)) := ⟨rfl, rfl, rfl, by decide +kernel, rfl, by decide +kernel, by decide +kernel⟩
theorem v4_cells : Vis (defScope (top 10)) "cells" := .inr (.inl (by decide +kernel))
theorem g4_len : (defScope (top 10)).names.lookup ("len" : Str) = some .globalImplicit := by decide +kernel
theorem g4_range : (defScope (top 10)).names.lookup ("range" : Str) = some .globalImplicit := by decide +kernel
theorem g4_all : (defScope (top 10)).names.lookup ("all" : Str) = some .globalImplicit := by decide +kernel
theorem sc5 : FnScope ["thing"] ["thing"] (defScope (top 11)) := ⟨rfl, rfl, rfl, by decide +kernel, rfl, by decide +kernel, by decide +kernel⟩
theorem v5_thing : Vis (defScope (top 11)) "thing" := .inl (by decide +kernel)
theorem g5_is_rising : (defScope (top 11)).names.lookup ("is_rising" : Str) = some .globalImplicit := by decide +kernel
theorem g5_all : (defScope (top 11)).names.lookup ("all" : Str) = some .globalImplicit := by decide +kernel
theorem g5_len : (defScope (top 11)).names.lookup ("len" : Str) = some .globalImplicit := by decide +kernel
theorem g5_MOST_CELLS : (defScope (top 11)).names.lookup ("MOST_CELLS" : Str) = some .globalImplicit := by decide +kernel
theorem g5_isinstance : (defScope (top 11)).names.lookup ("isinstance" : Str) = some .globalImplicit := by decide +kernel
theorem g5_tuple : (defScope (top 11)).names.lookup ("tuple" : Str) = some .globalImplicit := by decide +kernel
theorem sc6 : FnScope ["floor"] ["floor"] (defScope (top 12)) := ⟨rfl, rfl, rfl, by decide +kernel, rfl, by decide +kernel, by decide +kernel⟩
theorem v6_floor : Vis (defScope (top 12)) "floor" := .inl (by decide +kernel)
theorem g6_is_floor : (defScope (top 12)).names.lookup ("is_floor" : Str) = some .globalImplicit := by decide +kernel
theorem sc13 : FnScope ["_law_script", "_law_k"] ["_law_script", "_law_k"] (defScope (top 19)) := ⟨rfl, rfl, rfl, by decide +kernel, rfl, by decide +kernel, by decide +kernel⟩
theorem v13__law_k : Vis (defScope (top 19)) "_law_k" := .inl (by decide +kernel)
theorem v13__law_script : Vis (defScope (top 19)) "_law_script" := .inl (by decide +kernel)
theorem g13_len : (defScope (top 19)).names.lookup ("len" : Str) = some .globalImplicit := by decide +kernel
theorem sc14 : FnScope ["_law_cell_here", "_law_prime", "_law_many"] ["_law_cell_here", "_law_prime", "_law_many"] (defScope (top 20)) := ⟨rfl, rfl, rfl, by decide +kernel, rfl, by decide +kernel, by decide +kernel⟩
theorem v14__law_cell_here : Vis (defScope (top 20)) "_law_cell_here" := .inl (by decide +kernel)
theorem v14__law_prime : Vis (defScope (top 20)) "_law_prime" := .inl (by decide +kernel)
theorem v14__law_many : Vis (defScope (top 20)) "_law_many" := .inl (by decide +kernel)
theorem sc15 : FnScope ["_law_script", "_law_at", "_law_most", "_law_cell_here", "_law_rows", "_law_wide", "_law_down", "_law_right", "_law_way", "_law_found", "_law_r", "_law_c", "_law_seed"] ["_law_script", "_law_at", "_law_most"] (defScope (top 21)) := ⟨rfl, rfl, rfl, by decide +kernel, rfl, by decide +kernel, by decide +kernel⟩
theorem v15__law_found : Vis (defScope (top 21)) "_law_found" := .inl (by decide +kernel)
theorem v15__law_most : Vis (defScope (top 21)) "_law_most" := .inl (by decide +kernel)
theorem v15__law_right : Vis (defScope (top 21)) "_law_right" := .inl (by decide +kernel)
theorem v15__law_down : Vis (defScope (top 21)) "_law_down" := .inl (by decide +kernel)
theorem v15__law_rows : Vis (defScope (top 21)) "_law_rows" := .inl (by decide +kernel)
theorem v15__law_wide : Vis (defScope (top 21)) "_law_wide" := .inl (by decide +kernel)
theorem v15__law_way : Vis (defScope (top 21)) "_law_way" := .inl (by decide +kernel)
theorem v15__law_seed : Vis (defScope (top 21)) "_law_seed" := .inl (by decide +kernel)
theorem v15__law_c : Vis (defScope (top 21)) "_law_c" := .inl (by decide +kernel)
theorem v15__law_r : Vis (defScope (top 21)) "_law_r" := .inl (by decide +kernel)
theorem v15__law_at : Vis (defScope (top 21)) "_law_at" := .inl (by decide +kernel)
theorem v15__law_script : Vis (defScope (top 21)) "_law_script" := .inl (by decide +kernel)
theorem v15__law_cell_here : Vis (defScope (top 21)) "_law_cell_here" := .inl (by decide +kernel)
theorem l15__law_found : Loc (defScope (top 21)) "_law_found" := .inl (by decide +kernel)
theorem l15__law_seed : Loc (defScope (top 21)) "_law_seed" := .inl (by decide +kernel)
theorem l15__law_c : Loc (defScope (top 21)) "_law_c" := .inl (by decide +kernel)
theorem l15__law_r : Loc (defScope (top 21)) "_law_r" := .inl (by decide +kernel)
theorem l15__law_way : Loc (defScope (top 21)) "_law_way" := .inl (by decide +kernel)
theorem l15__law_right : Loc (defScope (top 21)) "_law_right" := .inl (by decide +kernel)
theorem l15__law_down : Loc (defScope (top 21)) "_law_down" := .inl (by decide +kernel)
theorem l15__law_wide : Loc (defScope (top 21)) "_law_wide" := .inl (by decide +kernel)
theorem l15__law_rows : Loc (defScope (top 21)) "_law_rows" := .inl (by decide +kernel)
theorem l15__law_cell_here : Loc (defScope (top 21)) "_law_cell_here" := .inl (by decide +kernel)
theorem g15_tuple : (defScope (top 21)).names.lookup ("tuple" : Str) = some .globalImplicit := by decide +kernel
theorem g15_range : (defScope (top 21)).names.lookup ("range" : Str) = some .globalImplicit := by decide +kernel
theorem g15__law_mix : (defScope (top 21)).names.lookup ("_law_mix" : Str) = some .globalImplicit := by decide +kernel
theorem g15__law_cell : (defScope (top 21)).names.lookup ("_law_cell" : Str) = some .globalImplicit := by decide +kernel
theorem sc86 : FnScope ["floor", "row", "width"] ["floor", "row", "width"] (defScope (top 14)) := ⟨rfl, rfl, rfl, by decide +kernel, rfl, by decide +kernel, by decide +kernel⟩
theorem v86_width : Vis (defScope (top 14)) "width" := .inl (by decide +kernel)
theorem g86_range : (defScope (top 14)).names.lookup ("range" : Str) = some .globalImplicit := by decide +kernel
theorem sc87 : FnScope ["floor", "width"] ["floor"] (defScope (top 15)) := ⟨rfl, rfl, rfl, by decide +kernel, rfl, by decide +kernel, by decide +kernel⟩
theorem v87_floor : Vis (defScope (top 15)) "floor" := .inr (.inl (by decide +kernel))
theorem l87_width : Loc (defScope (top 15)) "width" := .inr (by decide +kernel)
theorem g87_range : (defScope (top 15)).names.lookup ("range" : Str) = some .globalImplicit := by decide +kernel
theorem g87_max : (defScope (top 15)).names.lookup ("max" : Str) = some .globalImplicit := by decide +kernel
theorem g87_checked : (defScope (top 15)).names.lookup ("checked" : Str) = some .globalImplicit := by decide +kernel
theorem sc98 : FnScope ["text", "cells", "row", "line", "column", "sign"] ["text"] (defScope (top 16)) := ⟨rfl, rfl, rfl, by decide +kernel, rfl, by decide +kernel, by decide +kernel⟩
theorem v98_cells : Vis (defScope (top 16)) "cells" := .inl (by decide +kernel)
theorem v98_text : Vis (defScope (top 16)) "text" := .inl (by decide +kernel)
theorem v98_line : Vis (defScope (top 16)) "line" := .inl (by decide +kernel)
theorem v98_sign : Vis (defScope (top 16)) "sign" := .inl (by decide +kernel)
theorem v98_column : Vis (defScope (top 16)) "column" := .inl (by decide +kernel)
theorem v98_row : Vis (defScope (top 16)) "row" := .inl (by decide +kernel)
theorem l98_column : Loc (defScope (top 16)) "column" := .inl (by decide +kernel)
theorem l98_sign : Loc (defScope (top 16)) "sign" := .inl (by decide +kernel)
theorem l98_row : Loc (defScope (top 16)) "row" := .inl (by decide +kernel)
theorem l98_line : Loc (defScope (top 16)) "line" := .inl (by decide +kernel)
theorem l98_cells : Loc (defScope (top 16)) "cells" := .inl (by decide +kernel)
theorem g98_tuple : (defScope (top 16)).names.lookup ("tuple" : Str) = some .globalImplicit := by decide +kernel
theorem g98_enumerate : (defScope (top 16)).names.lookup ("enumerate" : Str) = some .globalImplicit := by decide +kernel
theorem sc99 : FnScope ["text", "floor"] ["text"] (defScope (top 17)) := ⟨rfl, rfl, rfl, by decide +kernel, rfl, by decide +kernel, by decide +kernel⟩
theorem v99_floor : Vis (defScope (top 17)) "floor" := .inl (by decide +kernel)
theorem v99_text : Vis (defScope (top 17)) "text" := .inl (by decide +kernel)
theorem l99_floor : Loc (defScope (top 17)) "floor" := .inl (by decide +kernel)
theorem g99_shown : (defScope (top 17)).names.lookup ("shown" : Str) = some .globalImplicit := by decide +kernel
theorem g99_is_floor : (defScope (top 17)).names.lookup ("is_floor" : Str) = some .globalImplicit := by decide +kernel
theorem g99_cells_in : (defScope (top 17)).names.lookup ("cells_in" : Str) = some .globalImplicit := by decide +kernel
theorem g99_isinstance : (defScope (top 17)).names.lookup ("isinstance" : Str) = some .globalImplicit := by decide +kernel
theorem g99_str : (defScope (top 17)).names.lookup ("str" : Str) = some .globalImplicit := by decide +kernel
theorem sc103 : FnScope ["_law_script", "_law_floor_here", "_law_due", "_law_row", "_law_column", "_law_text"] ["_law_script"] (defScope (top 22)) := ⟨rfl, rfl, rfl, by decide +kernel, rfl, by decide +kernel, by decide +kernel⟩
theorem v103__law_text : Vis (defScope (top 22)) "_law_text" := .inl (by decide +kernel)
theorem v103__law_floor_here : Vis (defScope (top 22)) "_law_floor_here" := .inl (by decide +kernel)
theorem v103__law_due : Vis (defScope (top 22)) "_law_due" := .inl (by decide +kernel)
theorem v103__law_column : Vis (defScope (top 22)) "_law_column" := .inl (by decide +kernel)
theorem v103__law_row : Vis (defScope (top 22)) "_law_row" := .inl (by decide +kernel)
theorem v103__law_script : Vis (defScope (top 22)) "_law_script" := .inl (by decide +kernel)
theorem l103__law_text : Loc (defScope (top 22)) "_law_text" := .inl (by decide +kernel)
theorem l103__law_due : Loc (defScope (top 22)) "_law_due" := .inl (by decide +kernel)
theorem l103__law_column : Loc (defScope (top 22)) "_law_column" := .inl (by decide +kernel)
theorem l103__law_row : Loc (defScope (top 22)) "_law_row" := .inl (by decide +kernel)
theorem l103__law_floor_here : Loc (defScope (top 22)) "_law_floor_here" := .inl (by decide +kernel)
theorem g103_read : (defScope (top 22)).names.lookup ("read" : Str) = some .globalImplicit := by decide +kernel
theorem g103_isinstance : (defScope (top 22)).names.lookup ("isinstance" : Str) = some .globalImplicit := by decide +kernel
theorem g103_str : (defScope (top 22)).names.lookup ("str" : Str) = some .globalImplicit := by decide +kernel
theorem g103_shown : (defScope (top 22)).names.lookup ("shown" : Str) = some .globalImplicit := by decide +kernel
theorem g103_max : (defScope (top 22)).names.lookup ("max" : Str) = some .globalImplicit := by decide +kernel
theorem g103_range : (defScope (top 22)).names.lookup ("range" : Str) = some .globalImplicit := by decide +kernel
theorem g103_int : (defScope (top 22)).names.lookup ("int" : Str) = some .globalImplicit := by decide +kernel
theorem g103__law_floor : (defScope (top 22)).names.lookup ("_law_floor" : Str) = some .globalImplicit := by decide +kernel
section
variable {Pg : Program} {w : World} {K : PySem.W.Frag} {mg : Str → Option Value} {base : Heap} {F : Nat → Addr} {FD : Nat → FuncData} {TK : Nat → Tok} {n fuel : Nat}
theorem body0 (T : Txt K mg F FD TK) (hall : ∀ i, FnOk Pg w K mg base CX0 n (F i) (FD i) (psOf i) (spA K (callA U fuel n) i (ioOf i))) (cdv : Value) (A : Around) (outer : List PySem.Env) (s : Shared) (H : Hp) (E : XK)
    (hr : Room n (A.deeper (envOfC "is_whole" (defScope (top 7)) s.heap.objs.size (F 0) cdv))) :
    ISs (cxOf CX0 Pg w K mg base ["thing", "least", "most"] "is_whole" (defScope (top 7)) (F 0) cdv A outer s H E).nox (exSs (callA U fuel n) fuel ir0) (defBody (top 7)) :=
  (ss_cons (s_if (IW.t (t_or (t_val (i_inst (t := .bool) g0_isinstance T.z_isinstance g0_bool T.z_bool PyProof.Rows.boot_bool (i_var 0 rfl v0_thing dd_thing dc_thing) dn_bool dd_bool star_Name star_Name (sa_cons star_Name sa_nil)) (ev_prim _ _) it_Call) (t_or1 (t_not (t_val (i_inst (t := .int) g0_isinstance T.z_isinstance g0_int T.z_int PyProof.Rows.boot_int (i_var 0 rfl v0_thing dd_thing dc_thing) dn_int dd_int star_Name star_Name (sa_cons star_Name sa_nil)) (ev_prim _ _) it_Call))))) (ss_cons (s_ret i_bl)
    ss_nil) ss_nil)
    (ss_cons (s_ret (i_chain vr_le vr_le (i_var 1 rfl v0_least dd_least dc_least) (i_var 0 rfl v0_thing dd_thing dc_thing) (i_var 2 rfl v0_most dd_most dc_most)))
    ss_nil))
theorem body1 (T : Txt K mg F FD TK) (hall : ∀ i, FnOk Pg w K mg base CX0 n (F i) (FD i) (psOf i) (spA K (callA U fuel n) i (ioOf i))) (cdv : Value) (A : Around) (outer : List PySem.Env) (s : Shared) (H : Hp) (E : XK)
    (hr : Room n (A.deeper (envOfC "is_couple" (defScope (top 8)) s.heap.objs.size (F 1) cdv))) :
    ISs (cxOf CX0 Pg w K mg base ["thing"] "is_couple" (defScope (top 8)) (F 1) cdv A outer s H E).nox (exSs (callA U fuel n) fuel ir1) (defBody (top 8)) :=
  (ss_cons (s_ret (i_and (i_inst (t := .tuple) g1_isinstance T.z_isinstance g1_tuple T.z_tuple PyProof.Rows.boot_tuple (i_var 0 rfl v1_thing dd_thing dc_thing) dn_tuple dd_tuple star_Name star_Name (sa_cons star_Name sa_nil)) (i_one (i_cmp (vr_eq hr.units) (i_callB vr_len g1_len T.z_len PySem.boot_len (i_cons (i_var 0 rfl v1_thing dd_thing dc_thing) i_nil star_Name) dn_len dd_len star_Name sa_nil) i_int (nomark _)))))
    ss_nil)
theorem body2 (T : Txt K mg F FD TK) (hall : ∀ i, FnOk Pg w K mg base CX0 n (F i) (FD i) (psOf i) (spA K (callA U fuel n) i (ioOf i))) (cdv : Value) (A : Around) (outer : List PySem.Env) (s : Shared) (H : Hp) (E : XK)
    (hr : Room n (A.deeper (envOfC "is_cell" (defScope (top 9)) s.heap.objs.size (F 2) cdv))) :
    ISs (cxOf CX0 Pg w K mg base ["thing"] "is_cell" (defScope (top 9)) (F 2) cdv A outer s H E).nox (exSs (callA U fuel n) fuel ir2) (defBody (top 9)) :=
  (ss_cons (s_ret (i_and (i_call (pure_ok (hall 1) rfl) hr g2_is_couple T.m1 T.f1.kp (T.b1) (i_cons (i_var 0 rfl v2_thing dd_thing dc_thing) i_nil star_Name) dd_is_couple star_Name sa_nil) (i_and (i_call (pure_ok (hall 0) rfl) hr g2_is_whole T.m0 T.f0.kp (T.b0) (i_cons (i_ix hr.units (i_var 0 rfl v2_thing dd_thing dc_thing) i_int (fun _ _ => rfl)) (i_cons i_int (i_cons (i_globI g2_LAST_LINE T.c0 dd_LAST_LINE) i_nil star_Name) star_Constant) star_Subscript) dd_is_whole star_Subscript (sa_cons star_Constant (sa_cons star_Name sa_nil))) (i_one (i_call (pure_ok (hall 0) rfl) hr g2_is_whole T.m0 T.f0.kp (T.b0) (i_cons (i_ix hr.units (i_var 0 rfl v2_thing dd_thing dc_thing) i_int (fun _ _ => rfl)) (i_cons i_int (i_cons (i_globI g2_LAST_LINE T.c0 dd_LAST_LINE) i_nil star_Name) star_Constant) star_Subscript) dd_is_whole star_Subscript (sa_cons star_Constant (sa_cons star_Name sa_nil)))))))
    ss_nil)
theorem body4 (T : Txt K mg F FD TK) (hall : ∀ i, FnOk Pg w K mg base CX0 n (F i) (FD i) (psOf i) (spA K (callA U fuel n) i (ioOf i))) (cdv : Value) (A : Around) (outer : List PySem.Env) (s : Shared) (H : Hp) (E : XK)
    (hr : Room n (A.deeper (envOfC "is_rising" (defScope (top 10)) s.heap.objs.size (F 4) cdv))) :
    ISs (cxOf CX0 Pg w K mg base ["cells"] "is_rising" (defScope (top 10)) (F 4) cdv A outer s H E).nox (exSs (callA U fuel n) fuel ir4) (defBody (top 10)) :=
  (ss_cons (s_ret (i_callB (vr_all rfl) g4_all T.z_all (by decide +kernel) (i_cons (i_comp rfl (compSc (sc := defScope (top 10)) (N := ["cells"]) rfl rfl (by decide +kernel)) (src_rng2 g4_range T.z_range (i_cons i_int (i_cons (i_callB vr_len g4_len T.z_len PySem.boot_len (i_cons (i_var 0 rfl v4_cells dd_cells dc_cells) i_nil star_Name) dn_len dd_len star_Name sa_nil) i_nil star_Call) star_Constant) star_Constant star_Call) (.inl ⟨rfl, rfl⟩) (fun _ _ _ _ => (i_cmp (vr_lt hr.units) (i_ix hr.units (i_var 1 rfl (vis_free (by decide +kernel)) dd_cells dc_cells) (i_op vr_sub (i_var 0 rfl (vis_loc (by decide +kernel)) dd_place dc_place) i_int) (fun _ _ => rfl)) (i_ix hr.units (i_var 1 rfl (vis_free (by decide +kernel)) dd_cells dc_cells) (i_var 0 rfl (vis_loc (by decide +kernel)) dd_place dc_place) (fun _ _ => rfl)) (nomark _)))) i_nil star_ListComp) dn_all dd_all star_ListComp sa_nil))
    ss_nil)
theorem body5 (T : Txt K mg F FD TK) (hall : ∀ i, FnOk Pg w K mg base CX0 n (F i) (FD i) (psOf i) (spA K (callA U fuel n) i (ioOf i))) (cdv : Value) (A : Around) (outer : List PySem.Env) (s : Shared) (H : Hp) (E : XK)
    (hr : Room n (A.deeper (envOfC "is_floor" (defScope (top 11)) s.heap.objs.size (F 5) cdv))) :
    ISs (cxOf CX0 Pg w K mg base ["thing"] "is_floor" (defScope (top 11)) (F 5) cdv A outer s H E).nox (exSs (callA U fuel n) fuel ir5) (defBody (top 11)) :=
  (ss_cons (s_if (IW.t (t_or (t_not (t_val (i_inst (t := .tuple) g5_isinstance T.z_isinstance g5_tuple T.z_tuple PyProof.Rows.boot_tuple (i_var 0 rfl v5_thing dd_thing dc_thing) dn_tuple dd_tuple star_Name star_Name (sa_cons star_Name sa_nil)) (ev_prim _ _) it_Call)) (t_or1 (t_not (t_chain rfl rfl vr_le vr_le i_int (i_callB vr_len g5_len T.z_len PySem.boot_len (i_cons (i_var 0 rfl v5_thing dd_thing dc_thing) i_nil star_Name) dn_len dd_len star_Name sa_nil) (i_globI g5_MOST_CELLS T.c1 dd_MOST_CELLS)))))) (ss_cons (s_ret i_bl)
    ss_nil) ss_nil)
    (ss_cons (s_ret (i_and (i_callB (vr_all rfl) g5_all T.z_all (by decide +kernel) (i_cons (i_comp rfl (compSc (sc := defScope (top 11)) (N := ["thing"]) rfl rfl (by decide +kernel)) (src_seq (i_var 0 rfl v5_thing dd_thing dc_thing)) (.inl ⟨rfl, rfl⟩) (fun _ _ _ _ => (i_call (pure_ok (hall 2) rfl) hr (gl_comp (by decide +kernel)) T.m2 T.f2.kp (T.b2) (i_cons (i_var 0 rfl (vis_loc (by decide +kernel)) dd_part dc_part) i_nil star_Name) dd_is_cell star_Name sa_nil))) i_nil star_ListComp) dn_all dd_all star_ListComp sa_nil) (i_one (i_call (pure_ok (hall 4) rfl) hr g5_is_rising T.m4 T.f4.kp (T.b4) (i_cons (i_var 0 rfl v5_thing dd_thing dc_thing) i_nil star_Name) dd_is_rising star_Name sa_nil))))
    ss_nil))
theorem body6 (T : Txt K mg F FD TK) (hall : ∀ i, FnOk Pg w K mg base CX0 n (F i) (FD i) (psOf i) (spA K (callA U fuel n) i (ioOf i))) (cdv : Value) (A : Around) (outer : List PySem.Env) (s : Shared) (H : Hp) (E : XK)
    (hr : Room n (A.deeper (envOfC "checked" (defScope (top 12)) s.heap.objs.size (F 6) cdv))) :
    ISs (cxOf CX0 Pg w K mg base ["floor"] "checked" (defScope (top 12)) (F 6) cdv A outer s H E).nox (exSs (callA U fuel n) fuel ir6) (defBody (top 12)) :=
  (ss_cons (s_if (t_not (t_val (i_call (pure_ok (hall 5) rfl) hr g6_is_floor T.m5 T.f5.kp (T.b5) (i_cons (i_var 0 rfl v6_floor dd_floor dc_floor) i_nil star_Name) dd_is_floor star_Name sa_nil) (ev_call _ _) it_Call)) (ss_cons s_stop
    ss_nil) ss_nil)
    (ss_cons (s_retV 0 rfl v6_floor dd_floor dc_floor)
    ss_nil))
theorem body13 (T : Txt K mg F FD TK) (hall : ∀ i, FnOk Pg w K mg base CX0 n (F i) (FD i) (psOf i) (spA K (callA U fuel n) i (ioOf i))) (cdv : Value) (A : Around) (outer : List PySem.Env) (s : Shared) (H : Hp) (E : XK)
    (hr : Room n (A.deeper (envOfC "_law_cell" (defScope (top 19)) s.heap.objs.size (F 13) cdv))) :
    ISs (cxOf CX0 Pg w K mg base ["_law_script", "_law_k"] "_law_cell" (defScope (top 19)) (F 13) cdv A outer s H E).nox (exSs (callA U fuel n) fuel ir13) (defBody (top 19)) :=
  (ss_cons (s_if (t_cmp rfl (vr_lt hr.units) (i_var 1 rfl v13__law_k dd__law_k dc__law_k) (i_callB vr_len g13_len T.z_len PySem.boot_len (i_cons (i_var 0 rfl v13__law_script dd__law_script dc__law_script) i_nil star_Name) dn_len dd_len star_Name sa_nil) (nomark _)) (ss_cons (s_ret (i_ix hr.units (i_var 0 rfl v13__law_script dd__law_script dc__law_script) (i_var 1 rfl v13__law_k dd__law_k dc__law_k) (fun _ _ => rfl)))
    ss_nil) ss_nil)
    (ss_cons (s_ret i_int)
    ss_nil))
theorem body14 (T : Txt K mg F FD TK) (hall : ∀ i, FnOk Pg w K mg base CX0 n (F i) (FD i) (psOf i) (spA K (callA U fuel n) i (ioOf i))) (cdv : Value) (A : Around) (outer : List PySem.Env) (s : Shared) (H : Hp) (E : XK)
    (hr : Room n (A.deeper (envOfC "_law_mix" (defScope (top 20)) s.heap.objs.size (F 14) cdv))) :
    ISs (cxOf CX0 Pg w K mg base ["_law_cell_here", "_law_prime", "_law_many"] "_law_mix" (defScope (top 20)) (F 14) cdv A outer s H E).nox (exSs (callA U fuel n) fuel ir14) (defBody (top 20)) :=
  (ss_cons (s_ret (i_op vr_mod (i_op vr_mod (i_op vr_mul (i_var 0 rfl v14__law_cell_here dd__law_cell_here dc__law_cell_here) i_int) (i_var 1 rfl v14__law_prime dd__law_prime dc__law_prime)) (i_var 2 rfl v14__law_many dd__law_many dc__law_many)))
    ss_nil)
theorem body15 (T : Txt K mg F FD TK) (hall : ∀ i, FnOk Pg w K mg base CX0 n (F i) (FD i) (psOf i) (spA K (callA U fuel n) i (ioOf i))) (cdv : Value) (A : Around) (outer : List PySem.Env) (s : Shared) (H : Hp) (E : XK)
    (hr : Room n (A.deeper (envOfC "_law_floor" (defScope (top 21)) s.heap.objs.size (F 15) cdv))) :
    ISs (cxOf CX0 Pg w K mg base ["_law_script", "_law_at", "_law_most", "_law_cell_here", "_law_rows", "_law_wide", "_law_down", "_law_right", "_law_way", "_law_found", "_law_r", "_law_c", "_law_seed"] "_law_floor" (defScope (top 21)) (F 15) cdv A outer s H E).nox (exSs (callA U fuel n) fuel ir15) (defBody (top 21)) :=
  (ss_cons (s_asg 3 sc15.nd rfl l15__law_cell_here (i_call (pure_ok (hall 13) rfl) hr g15__law_cell T.m13 T.f13.kp (T.b13) (i_cons (i_var 0 rfl v15__law_script dd__law_script dc__law_script) (i_cons (i_var 1 rfl v15__law_at dd__law_at dc__law_at) i_nil star_Name) star_Name) dd__law_cell star_Name (sa_cons star_Name sa_nil)))
    (ss_cons (s_asg 4 sc15.nd rfl l15__law_rows (i_op vr_add i_int (i_call (pure_ok (hall 14) rfl) hr g15__law_mix T.m14 T.f14.kp (T.b14) (i_cons (i_var 3 rfl v15__law_cell_here dd__law_cell_here dc__law_cell_here) (i_cons i_int (i_cons i_int i_nil star_Constant) star_Constant) star_Name) dd__law_mix star_Name (sa_cons star_Constant (sa_cons star_Constant sa_nil)))))
    (ss_cons (s_asg 5 sc15.nd rfl l15__law_wide (i_op vr_add i_int (i_call (pure_ok (hall 14) rfl) hr g15__law_mix T.m14 T.f14.kp (T.b14) (i_cons (i_var 3 rfl v15__law_cell_here dd__law_cell_here dc__law_cell_here) (i_cons i_int (i_cons i_int i_nil star_Constant) star_Constant) star_Name) dd__law_mix star_Name (sa_cons star_Constant (sa_cons star_Constant sa_nil)))))
    (ss_cons (s_asg 6 sc15.nd rfl l15__law_down (i_call (pure_ok (hall 14) rfl) hr g15__law_mix T.m14 T.f14.kp (T.b14) (i_cons (i_call (pure_ok (hall 13) rfl) hr g15__law_cell T.m13 T.f13.kp (T.b13) (i_cons (i_var 0 rfl v15__law_script dd__law_script dc__law_script) (i_cons (i_op vr_add (i_var 1 rfl v15__law_at dd__law_at dc__law_at) i_int) i_nil star_BinOp) star_Name) dd__law_cell star_Name (sa_cons star_BinOp sa_nil)) (i_cons i_int (i_cons (i_op vr_sub i_int (i_var 4 rfl v15__law_rows dd__law_rows dc__law_rows)) i_nil star_BinOp) star_Constant) star_Call) dd__law_mix star_Call (sa_cons star_Constant (sa_cons star_BinOp sa_nil))))
    (ss_cons (s_asg 7 sc15.nd rfl l15__law_right (i_call (pure_ok (hall 14) rfl) hr g15__law_mix T.m14 T.f14.kp (T.b14) (i_cons (i_call (pure_ok (hall 13) rfl) hr g15__law_cell T.m13 T.f13.kp (T.b13) (i_cons (i_var 0 rfl v15__law_script dd__law_script dc__law_script) (i_cons (i_op vr_add (i_var 1 rfl v15__law_at dd__law_at dc__law_at) i_int) i_nil star_BinOp) star_Name) dd__law_cell star_Name (sa_cons star_BinOp sa_nil)) (i_cons i_int (i_cons (i_op vr_sub i_int (i_var 5 rfl v15__law_wide dd__law_wide dc__law_wide)) i_nil star_BinOp) star_Constant) star_Call) dd__law_mix star_Call (sa_cons star_Constant (sa_cons star_BinOp sa_nil))))
    (ss_cons (s_asg 8 sc15.nd rfl l15__law_way (i_call (pure_ok (hall 14) rfl) hr g15__law_mix T.m14 T.f14.kp (T.b14) (i_cons (i_op vr_add (i_var 3 rfl v15__law_cell_here dd__law_cell_here dc__law_cell_here) i_int) (i_cons i_int (i_cons i_int i_nil star_Constant) star_Constant) star_BinOp) dd__law_mix star_BinOp (sa_cons star_Constant (sa_cons star_Constant sa_nil))))
    (ss_cons (s_asg 9 sc15.nd rfl l15__law_found (i_lst i_nil))
    (ss_cons (s_for 10 PassesOwn.never rfl sc15.nd rfl l15__law_r (src_rng1 g15_range T.z_range (i_cons (i_var 4 rfl v15__law_rows dd__law_rows dc__law_rows) i_nil star_Name) star_Name) (ss_cons (s_for 11 PassesOwn.never rfl sc15.nd rfl l15__law_c (src_rng1 g15_range T.z_range (i_cons (i_var 5 rfl v15__law_wide dd__law_wide dc__law_wide) i_nil star_Name) star_Name) (ss_cons (s_asg 12 sc15.nd rfl l15__law_seed (i_op vr_add (i_op vr_add (i_call (pure_ok (hall 13) rfl) hr g15__law_cell T.m13 T.f13.kp (T.b13) (i_cons (i_var 0 rfl v15__law_script dd__law_script dc__law_script) (i_cons (i_op vr_add (i_op vr_add (i_var 1 rfl v15__law_at dd__law_at dc__law_at) i_int) (i_op vr_mod (i_op vr_add (i_var 10 rfl v15__law_r dd__law_r dc__law_r) (i_op vr_mul i_int (i_var 11 rfl v15__law_c dd__law_c dc__law_c))) i_int)) i_nil star_BinOp) star_Name) dd__law_cell star_Name (sa_cons star_BinOp sa_nil)) (i_op vr_mul (i_op vr_mul i_int (i_var 10 rfl v15__law_r dd__law_r dc__law_r)) (i_var 10 rfl v15__law_r dd__law_r dc__law_r))) (i_op vr_mul (i_op vr_mul i_int (i_var 11 rfl v15__law_c dd__law_c dc__law_c)) (i_var 11 rfl v15__law_c dd__law_c dc__law_c))))
    (ss_cons (s_if (IW.t (t_or (t_cmp rfl (vr_eq hr.units) (i_var 8 rfl v15__law_way dd__law_way dc__law_way) i_int (nomark _)) (t_or1 (t_cmp rfl vr_gt (i_call (pure_ok (hall 14) rfl) hr g15__law_mix T.m14 T.f14.kp (T.b14) (i_cons (i_var 12 rfl v15__law_seed dd__law_seed dc__law_seed) (i_cons i_int (i_cons (i_ix hr.units (i_lst (i_cons i_int (i_cons i_int (i_cons i_int i_nil star_Constant) star_Constant) star_Constant)) (i_op vr_sub (i_var 8 rfl v15__law_way dd__law_way dc__law_way) i_int) (fun _ _ => rfl)) i_nil star_Subscript) star_Constant) star_Name) dd__law_mix star_Name (sa_cons star_Constant (sa_cons star_Subscript sa_nil))) i_int (nomark _))))) (ss_cons (s_app 9 rfl v15__law_found (i_tup (i_cons (i_op vr_add (i_var 6 rfl v15__law_down dd__law_down dc__law_down) (i_var 10 rfl v15__law_r dd__law_r dc__law_r)) (i_cons (i_op vr_add (i_var 7 rfl v15__law_right dd__law_right dc__law_right) (i_var 11 rfl v15__law_c dd__law_c dc__law_c)) i_nil star_BinOp) star_BinOp)) star_Tuple dd__law_found dc__law_found)
    ss_nil) ss_nil)
    ss_nil)))
    ss_nil))
    (ss_cons (s_if (t_not (t_val (i_var 9 rfl v15__law_found dd__law_found dc__law_found) (ev_var _) it_Name)) (ss_cons (s_asg 9 sc15.nd rfl l15__law_found (i_lst (i_cons (i_tup (i_cons (i_var 6 rfl v15__law_down dd__law_down dc__law_down) (i_cons (i_var 7 rfl v15__law_right dd__law_right dc__law_right) i_nil star_Name) star_Name)) i_nil star_Tuple)))
    ss_nil) ss_nil)
    (ss_cons (s_ret (i_callTy vr_toTup g15_tuple T.z_tuple PyProof.Rows.boot_tuple (i_cons (i_cutTo (i_var 9 rfl v15__law_found dd__law_found dc__law_found) (i_var 2 rfl v15__law_most dd__law_most dc__law_most)) i_nil star_Subscript) dn_tuple dd_tuple star_Subscript sa_nil))
    ss_nil))))))))))
theorem body86 (T : Txt K mg F FD TK) (hall : ∀ i, FnOk Pg w K mg base CX0 n (F i) (FD i) (psOf i) (spA K (callA U fuel n) i (ioOf i))) (cdv : Value) (A : Around) (outer : List PySem.Env) (s : Shared) (H : Hp) (E : XK)
    (hr : Room n (A.deeper (envOfC "shown_line" (defScope (top 14)) s.heap.objs.size (F 86) cdv))) :
    ISs (cxOf CX0 Pg w K mg base ["floor", "row", "width"] "shown_line" (defScope (top 14)) (F 86) cdv A outer s H E).nox (exSs (callA U fuel n) fuel ir86) (defBody (top 14)) :=
  (ss_cons (s_ret (i_op vr_addS (i_join0 (i_comp rfl (compSc (sc := defScope (top 14)) (N := ["floor", "row", "width"]) rfl rfl (by decide +kernel)) (src_rng1 g86_range T.z_range (i_cons (i_var 2 rfl v86_width dd_width dc_width) i_nil star_Name) star_Name) (.inl ⟨rfl, rfl⟩) (fun _ _ _ _ => (i_ite (t_cmp rfl (vr_in hr.units) (i_tup (i_cons (i_var 2 rfl (vis_free (by decide +kernel)) dd_row dc_row) (i_cons (i_var 0 rfl (vis_loc (by decide +kernel)) dd_column dc_column) i_nil star_Name) star_Name)) (i_var 1 rfl (vis_free (by decide +kernel)) dd_floor dc_floor) (by with_unfolding_all rfl)) i_str i_str))) (by decide +kernel) star_ListComp) i_str))
    ss_nil)
theorem body87 (T : Txt K mg F FD TK) (hall : ∀ i, FnOk Pg w K mg base CX0 n (F i) (FD i) (psOf i) (spA K (callA U fuel n) i (ioOf i))) (cdv : Value) (A : Around) (outer : List PySem.Env) (s : Shared) (H : Hp) (E : XK)
    (hr : Room n (A.deeper (envOfC "shown" (defScope (top 15)) s.heap.objs.size (F 87) cdv))) :
    ISs (cxOf CX0 Pg w K mg base ["floor", "width"] "shown" (defScope (top 15)) (F 87) cdv A outer s H E).nox (exSs (callA U fuel n) fuel ir87) (defBody (top 15)) :=
  (ss_cons (s_expr (i_call (pure_ok (hall 6) rfl) hr g87_checked T.m6 T.f6.kp (T.b6) (i_cons (i_var 0 rfl v87_floor dd_floor dc_floor) i_nil star_Name) dd_checked star_Name sa_nil))
    (ss_cons (s_asg 1 sc87.nd rfl l87_width (i_op vr_add (i_callB (vr_maxL rfl) g87_max T.z_max PyProof.Rows.boot_max (i_cons (i_comp rfl (compSc (sc := defScope (top 15)) (N := ["floor", "width"]) rfl rfl (by decide +kernel)) (src_seq (i_var 0 rfl v87_floor dd_floor dc_floor)) (.inl ⟨rfl, rfl⟩) (fun _ _ _ _ => (i_ix hr.units (i_var 0 rfl (vis_loc (by decide +kernel)) dd_cell dc_cell) i_int (fun _ _ => rfl)))) i_nil star_ListComp) dn_max dd_max star_ListComp sa_nil) i_int))
    (ss_cons (s_ret (i_join0 (i_comp rfl (compSc (sc := defScope (top 15)) (N := ["floor", "width"]) rfl rfl (by decide +kernel)) (src_rng1 g87_range T.z_range (i_cons (i_op vr_add (i_ix hr.units (i_ix hr.units (i_var 0 rfl v87_floor dd_floor dc_floor) (i_un vr_neg i_int) (fun _ _ => rfl)) i_int (fun _ _ => rfl)) i_int) i_nil star_BinOp) star_BinOp) (.inl ⟨rfl, rfl⟩) (fun _ _ _ _ => (i_call (pure_ok (hall 86) rfl) hr (gl_comp (by decide +kernel)) T.m86 T.f86.kp (T.b86) (i_cons (i_var 1 rfl (vis_free (by decide +kernel)) dd_floor dc_floor) (i_cons (i_var 0 rfl (vis_loc (by decide +kernel)) dd_row dc_row) (i_cons (i_var 2 rfl (vis_free (by decide +kernel)) dd_width dc_width) i_nil star_Name) star_Name) star_Name) dd_shown_line star_Name (sa_cons star_Name (sa_cons star_Name sa_nil))))) (by decide +kernel) star_ListComp))
    ss_nil)))
theorem body98 (T : Txt K mg F FD TK) (hall : ∀ i, FnOk Pg w K mg base CX0 n (F i) (FD i) (psOf i) (spA K (callA U fuel n) i (ioOf i))) (cdv : Value) (A : Around) (outer : List PySem.Env) (s : Shared) (H : Hp) (E : XK)
    (hr : Room n (A.deeper (envOfC "cells_in" (defScope (top 16)) s.heap.objs.size (F 98) cdv))) :
    ISs (cxOf CX0 Pg w K mg base ["text", "cells", "row", "line", "column", "sign"] "cells_in" (defScope (top 16)) (F 98) cdv A outer s H E).nox (exSs (callA U fuel n) fuel ir98) (defBody (top 16)) :=
  (ss_cons (s_asg 1 sc98.nd rfl l98_cells (i_lst i_nil))
    (ss_cons (s_forE 2 3 PassesOwn.never rfl sc98.nd rfl l98_row rfl l98_line g98_enumerate T.z_enumerate (i_split (i_var 0 rfl v98_text dd_text dc_text) (by decide +kernel)) star_Call (ss_cons (s_forE 4 5 PassesOwn.never rfl sc98.nd rfl l98_column rfl l98_sign g98_enumerate T.z_enumerate (i_var 3 rfl v98_line dd_line dc_line) star_Name (ss_cons (s_if (t_cmp rfl vr_eqS (i_var 5 rfl v98_sign dd_sign dc_sign) i_str (nomark _)) (ss_cons (s_app 1 rfl v98_cells (i_tup (i_cons (i_var 2 rfl v98_row dd_row dc_row) (i_cons (i_var 4 rfl v98_column dd_column dc_column) i_nil star_Name) star_Name)) star_Tuple dd_cells dc_cells)
    ss_nil) ss_nil)
    ss_nil))
    ss_nil))
    (ss_cons (s_ret (i_callTy vr_toTup g98_tuple T.z_tuple PyProof.Rows.boot_tuple (i_cons (i_var 1 rfl v98_cells dd_cells dc_cells) i_nil star_Name) dn_tuple dd_tuple star_Name sa_nil))
    ss_nil)))
theorem body99 (T : Txt K mg F FD TK) (hall : ∀ i, FnOk Pg w K mg base CX0 n (F i) (FD i) (psOf i) (spA K (callA U fuel n) i (ioOf i))) (cdv : Value) (A : Around) (outer : List PySem.Env) (s : Shared) (H : Hp) (E : XK)
    (hr : Room n (A.deeper (envOfC "read" (defScope (top 17)) s.heap.objs.size (F 99) cdv))) :
    ISs (cxOf CX0 Pg w K mg base ["text", "floor"] "read" (defScope (top 17)) (F 99) cdv A outer s H E).nox (exSs (callA U fuel n) fuel ir99) (defBody (top 17)) :=
  (ss_cons (s_if (t_not (t_val (i_inst (t := .str) g99_isinstance T.z_isinstance g99_str T.z_str PyProof.Rows.boot_str (i_var 0 rfl v99_text dd_text dc_text) dn_str dd_str star_Name star_Name (sa_cons star_Name sa_nil)) (ev_prim _ _) it_Call)) (ss_cons s_stop
    ss_nil) ss_nil)
    (ss_cons (s_asg 1 sc99.nd rfl l99_floor (i_call (pure_ok (hall 98) rfl) hr g99_cells_in T.m98 T.f98.kp (T.b98) (i_cons (i_var 0 rfl v99_text dd_text dc_text) i_nil star_Name) dd_cells_in star_Name sa_nil))
    (ss_cons (s_if (IW.t (t_or (t_not (t_val (i_call (pure_ok (hall 5) rfl) hr g99_is_floor T.m5 T.f5.kp (T.b5) (i_cons (i_var 1 rfl v99_floor dd_floor dc_floor) i_nil star_Name) dd_is_floor star_Name sa_nil) (ev_call _ _) it_Call)) (t_or1 (t_cmp rfl vr_neS (i_call (pure_ok (hall 87) rfl) hr g99_shown T.m87 T.f87.kp (T.b87) (i_cons (i_var 1 rfl v99_floor dd_floor dc_floor) i_nil star_Name) dd_shown star_Name sa_nil) (i_var 0 rfl v99_text dd_text dc_text) (nomark _))))) (ss_cons s_stop
    ss_nil) ss_nil)
    (ss_cons (s_retV 1 rfl v99_floor dd_floor dc_floor)
    ss_nil))))
theorem body103 (T : Txt K mg F FD TK) (hall : ∀ i, FnOk Pg w K mg base CX0 n (F i) (FD i) (psOf i) (spA K (callA U fuel n) i (ioOf i))) (cdv : Value) (A : Around) (outer : List PySem.Env) (s : Shared) (H : Hp) (E : XK)
    (hr : Room n (A.deeper (envOfC "law" (defScope (top 22)) s.heap.objs.size (F 103) cdv))) :
    ISs (cxOf CX0 Pg w K mg base ["_law_script", "_law_floor_here", "_law_due", "_law_row", "_law_column", "_law_text"] "law" (defScope (top 22)) (F 103) cdv A outer s H E).nox (exSs (callA U fuel n) fuel ir103) (defBody (top 22)) :=
  (ss_cons (s_asg 1 sc103.nd rfl l103__law_floor_here (i_call (pure_ok (hall 15) rfl) hr g103__law_floor T.m15 T.f15.kp (T.b15) (i_cons (i_var 0 rfl v103__law_script dd__law_script dc__law_script) (i_cons i_int (i_cons i_int i_nil star_Constant) star_Constant) star_Name) dd__law_floor star_Name (sa_cons star_Constant (sa_cons star_Constant sa_nil))))
    (ss_cons (s_asg 2 sc103.nd rfl l103__law_due i_str)
    (ss_cons (s_for 3 PassesOwn.never rfl sc103.nd rfl l103__law_row (src_rng1 g103_range T.z_range (i_cons (i_op vr_add (i_callB (vr_maxL rfl) g103_max T.z_max PyProof.Rows.boot_max (i_cons (i_comp rfl (compSc (sc := defScope (top 22)) (N := ["_law_script", "_law_floor_here", "_law_due", "_law_row", "_law_column", "_law_text"]) rfl rfl (by decide +kernel)) (src_seq (i_var 1 rfl v103__law_floor_here dd__law_floor_here dc__law_floor_here)) (.inl ⟨rfl, rfl⟩) (fun _ _ _ _ => (i_ix hr.units (i_var 0 rfl (vis_loc (by decide +kernel)) dd__law_cell_here dc__law_cell_here) i_int (fun _ _ => rfl)))) i_nil star_ListComp) dn_max dd_max star_ListComp sa_nil) i_int) i_nil star_BinOp) star_BinOp) (ss_cons (s_for 4 PassesOwn.never rfl sc103.nd rfl l103__law_column (src_rng1 g103_range T.z_range (i_cons (i_op vr_add (i_callB (vr_maxL rfl) g103_max T.z_max PyProof.Rows.boot_max (i_cons (i_comp rfl (compSc (sc := defScope (top 22)) (N := ["_law_script", "_law_floor_here", "_law_due", "_law_row", "_law_column", "_law_text"]) rfl rfl (by decide +kernel)) (src_seq (i_var 1 rfl v103__law_floor_here dd__law_floor_here dc__law_floor_here)) (.inl ⟨rfl, rfl⟩) (fun _ _ _ _ => (i_ix hr.units (i_var 0 rfl (vis_loc (by decide +kernel)) dd__law_cell_here dc__law_cell_here) i_int (fun _ _ => rfl)))) i_nil star_ListComp) dn_max dd_max star_ListComp sa_nil) i_int) i_nil star_BinOp) star_BinOp) (ss_cons (s_asg 2 sc103.nd rfl l103__law_due (i_op vr_addS (i_var 2 rfl v103__law_due dd__law_due dc__law_due) (i_ix hr.units (i_lst (i_cons i_str (i_cons i_str i_nil star_Constant) star_Constant)) (i_callTy vr_intOf g103_int T.z_int PyProof.Rows.boot_int (i_cons (i_cmp (vr_in hr.units) (i_tup (i_cons (i_var 3 rfl v103__law_row dd__law_row dc__law_row) (i_cons (i_var 4 rfl v103__law_column dd__law_column dc__law_column) i_nil star_Name) star_Name)) (i_var 1 rfl v103__law_floor_here dd__law_floor_here dc__law_floor_here) (by with_unfolding_all rfl)) i_nil star_Compare) dn_int dd_int star_Compare sa_nil) (fun _ _ => rfl))))
    ss_nil))
    (ss_cons (s_asg 2 sc103.nd rfl l103__law_due (i_op vr_addS (i_var 2 rfl v103__law_due dd__law_due dc__law_due) i_str))
    ss_nil)))
    (ss_cons (s_asg 5 sc103.nd rfl l103__law_text (i_call (pure_ok (hall 87) rfl) hr g103_shown T.m87 T.f87.kp (T.b87) (i_cons (i_var 1 rfl v103__law_floor_here dd__law_floor_here dc__law_floor_here) i_nil star_Name) dd_shown star_Name sa_nil))
    (ss_cons (s_ret (i_and (i_inst (t := .str) g103_isinstance T.z_isinstance g103_str T.z_str PyProof.Rows.boot_str (i_var 5 rfl v103__law_text dd__law_text dc__law_text) dn_str dd_str star_Name star_Name (sa_cons star_Name sa_nil)) (i_and (i_cmp vr_eqS (i_var 5 rfl v103__law_text dd__law_text dc__law_text) (i_var 2 rfl v103__law_due dd__law_due dc__law_due) (nomark _)) (i_one (i_cmp (vr_eq hr.units) (i_call (pure_ok (hall 99) rfl) hr g103_read T.m99 T.f99.kp (T.b99) (i_cons (i_var 5 rfl v103__law_text dd__law_text dc__law_text) i_nil star_Name) dd_read star_Name sa_nil) (i_var 1 rfl v103__law_floor_here dd__law_floor_here dc__law_floor_here) (nomark _))))))
    ss_nil)))))
theorem all_ok (T : Txt K mg F FD TK) : ∀ n i, FnOk Pg w K mg base CX0 n (F i) (FD i) (psOf i) (spA K (callA U fuel n) i (ioOf i))
  | 0, _ => fn_zero
  | n + 1, 0 => fn_ok (F0 := ⟨3, 3, ir0, [], none⟩) T.f0 sc0 rfl rfl rfl rfl (by decide) rfl (body0 T (all_ok T n))
  | n + 1, 1 => fn_ok (F0 := ⟨1, 1, ir1, [], none⟩) T.f1 sc1 rfl rfl rfl rfl (by decide) rfl (body1 T (all_ok T n))
  | n + 1, 2 => fn_ok (F0 := ⟨1, 1, ir2, [], none⟩) T.f2 sc2 rfl rfl rfl rfl (by decide) rfl (body2 T (all_ok T n))
  | n + 1, 3 => fn_none rfl
  | n + 1, 4 => fn_ok (F0 := ⟨1, 1, ir4, [], none⟩) T.f4 sc4 rfl rfl rfl rfl (by decide) rfl (body4 T (all_ok T n))
  | n + 1, 5 => fn_ok (F0 := ⟨1, 1, ir5, [], none⟩) T.f5 sc5 rfl rfl rfl rfl (by decide) rfl (body5 T (all_ok T n))
  | n + 1, 6 => fn_ok (F0 := ⟨1, 1, ir6, [], none⟩) T.f6 sc6 rfl rfl rfl rfl (by decide) rfl (body6 T (all_ok T n))
  | n + 1, 7 => fn_none rfl
  | n + 1, 8 => fn_none rfl
  | n + 1, 9 => fn_none rfl
  | n + 1, 10 => fn_none rfl
  | n + 1, 11 => fn_none rfl
  | n + 1, 12 => fn_none rfl
  | n + 1, 13 => fn_ok (F0 := ⟨2, 2, ir13, [], none⟩) T.f13 sc13 rfl rfl rfl rfl (by decide) rfl (body13 T (all_ok T n))
  | n + 1, 14 => fn_ok (F0 := ⟨3, 3, ir14, [], none⟩) T.f14 sc14 rfl rfl rfl rfl (by decide) rfl (body14 T (all_ok T n))
  | n + 1, 15 => fn_ok (F0 := ⟨3, 13, ir15, [], none⟩) T.f15 sc15 rfl rfl rfl rfl (by decide) rfl (body15 T (all_ok T n))
  | n + 1, 16 => fn_none rfl
  | n + 1, 17 => fn_none rfl
  | n + 1, 18 => fn_none rfl
  | n + 1, 19 => fn_none rfl
  | n + 1, 20 => fn_none rfl
  | n + 1, 21 => fn_none rfl
  | n + 1, 22 => fn_none rfl
  | n + 1, 23 => fn_none rfl
  | n + 1, 24 => fn_none rfl
  | n + 1, 25 => fn_none rfl
  | n + 1, 26 => fn_none rfl
  | n + 1, 27 => fn_none rfl
  | n + 1, 28 => fn_none rfl
  | n + 1, 29 => fn_none rfl
  | n + 1, 30 => fn_none rfl
  | n + 1, 31 => fn_none rfl
  | n + 1, 32 => fn_none rfl
  | n + 1, 33 => fn_none rfl
  | n + 1, 34 => fn_none rfl
  | n + 1, 35 => fn_none rfl
  | n + 1, 36 => fn_none rfl
  | n + 1, 37 => fn_none rfl
  | n + 1, 38 => fn_none rfl
  | n + 1, 39 => fn_none rfl
  | n + 1, 40 => fn_none rfl
  | n + 1, 41 => fn_none rfl
  | n + 1, 42 => fn_none rfl
  | n + 1, 43 => fn_none rfl
  | n + 1, 44 => fn_none rfl
  | n + 1, 45 => fn_none rfl
  | n + 1, 46 => fn_none rfl
  | n + 1, 47 => fn_none rfl
  | n + 1, 48 => fn_none rfl
  | n + 1, 49 => fn_none rfl
  | n + 1, 50 => fn_none rfl
  | n + 1, 51 => fn_none rfl
  | n + 1, 52 => fn_none rfl
  | n + 1, 53 => fn_none rfl
  | n + 1, 54 => fn_none rfl
  | n + 1, 55 => fn_none rfl
  | n + 1, 56 => fn_none rfl
  | n + 1, 57 => fn_none rfl
  | n + 1, 58 => fn_none rfl
  | n + 1, 59 => fn_none rfl
  | n + 1, 60 => fn_none rfl
  | n + 1, 61 => fn_none rfl
  | n + 1, 62 => fn_none rfl
  | n + 1, 63 => fn_none rfl
  | n + 1, 64 => fn_none rfl
  | n + 1, 65 => fn_none rfl
  | n + 1, 66 => fn_none rfl
  | n + 1, 67 => fn_none rfl
  | n + 1, 68 => fn_none rfl
  | n + 1, 69 => fn_none rfl
  | n + 1, 70 => fn_none rfl
  | n + 1, 71 => fn_none rfl
  | n + 1, 72 => fn_none rfl
  | n + 1, 73 => fn_none rfl
  | n + 1, 74 => fn_none rfl
  | n + 1, 75 => fn_none rfl
  | n + 1, 76 => fn_none rfl
  | n + 1, 77 => fn_none rfl
  | n + 1, 78 => fn_none rfl
  | n + 1, 79 => fn_none rfl
  | n + 1, 80 => fn_none rfl
  | n + 1, 81 => fn_none rfl
  | n + 1, 82 => fn_none rfl
  | n + 1, 83 => fn_none rfl
  | n + 1, 84 => fn_none rfl
  | n + 1, 85 => fn_none rfl
  | n + 1, 86 => fn_ok (F0 := ⟨3, 3, ir86, [], none⟩) T.f86 sc86 rfl rfl rfl rfl (by decide) rfl (body86 T (all_ok T n))
  | n + 1, 87 => fn_ok (F0 := ⟨1, 2, ir87, [], none⟩) T.f87 sc87 rfl rfl rfl rfl (by decide) rfl (body87 T (all_ok T n))
  | n + 1, 88 => fn_none rfl
  | n + 1, 89 => fn_none rfl
  | n + 1, 90 => fn_none rfl
  | n + 1, 91 => fn_none rfl
  | n + 1, 92 => fn_none rfl
  | n + 1, 93 => fn_none rfl
  | n + 1, 94 => fn_none rfl
  | n + 1, 95 => fn_none rfl
  | n + 1, 96 => fn_none rfl
  | n + 1, 97 => fn_none rfl
  | n + 1, 98 => fn_ok (F0 := ⟨1, 6, ir98, [], none⟩) T.f98 sc98 rfl rfl rfl rfl (by decide) rfl (body98 T (all_ok T n))
  | n + 1, 99 => fn_ok (F0 := ⟨1, 2, ir99, [], none⟩) T.f99 sc99 rfl rfl rfl rfl (by decide) rfl (body99 T (all_ok T n))
  | n + 1, 100 => fn_none rfl
  | n + 1, 101 => fn_none rfl
  | n + 1, 102 => fn_none rfl
  | n + 1, 103 => fn_ok (F0 := ⟨1, 6, ir103, [], none⟩) T.f103 sc103 rfl rfl rfl rfl (by decide) rfl (body103 T (all_ok T n))
  | n + 1, _ + 104 => fn_none rfl
theorem txt_mk {h : Heap} (X : K.In h) (G : h.Ns mainGlobals mg) {f0 f1 f2 f4 f5 f6 f13 f14 f15 f86 f87 f98 f99 f103 : Addr} {od0 od1 od2 od4 od5 od6 od13 od14 od15 od86 od87 od98 od99 od103 an0 an1 an2 an4 an5 an6 an13 an14 an15 an86 an87 an98 an99 an103 : Option Addr} {sl0 sl1 sl2 sl4 sl5 sl6 sl13 sl14 sl15 sl86 sl87 sl98 sl99 sl103 : Array (Option Value)} {oc0 oc1 oc2 oc4 oc5 oc6 oc13 oc14 oc15 oc86 oc87 oc98 oc99 oc103 kV0 kV1 kV2 kV4 kV5 kV6 kV13 kV14 kV15 kV86 kV87 kV98 kV99 kV103 dc0 dc1 dc2 dc4 dc5 dc6 dc13 dc14 dc15 dc86 dc87 dc98 dc99 dc103 pm0 pm1 pm2 pm4 pm5 pm6 pm13 pm14 pm15 pm86 pm87 pm98 pm99 pm103 cd0 cd1 cd2 cd4 cd5 cd6 cd13 cd14 cd15 cd86 cd87 cd98 cd99 cd103 ct0 ct1 ct2 ct4 ct5 ct6 ct13 ct14 ct15 ct86 ct87 ct98 ct99 ct103 : Value} {t0 t1 : Tok}
    (a0 : PySem.W.nsIn K mainGlobals "is_whole" = some (some (.ref f0))) (l0 : K.lookup f0 = some ⟨oc0, od0, .func (PySem.W.fnOf "is_whole" "is_whole" (defArgs (top 7)) (defBody (top 7)) (defScope (top 7)) .none kV0 dc0 pm0 an0 cd0 ct0), sl0⟩) (e0 : PySem.W.codeIn K cd0 "is_whole" = true) (k0 : PySem.W.keepIn K (.ref f0) = true)
    (a1 : PySem.W.nsIn K mainGlobals "is_couple" = some (some (.ref f1))) (l1 : K.lookup f1 = some ⟨oc1, od1, .func (PySem.W.fnOf "is_couple" "is_couple" (defArgs (top 8)) (defBody (top 8)) (defScope (top 8)) .none kV1 dc1 pm1 an1 cd1 ct1), sl1⟩) (e1 : PySem.W.codeIn K cd1 "is_couple" = true) (k1 : PySem.W.keepIn K (.ref f1) = true)
    (a2 : PySem.W.nsIn K mainGlobals "is_cell" = some (some (.ref f2))) (l2 : K.lookup f2 = some ⟨oc2, od2, .func (PySem.W.fnOf "is_cell" "is_cell" (defArgs (top 9)) (defBody (top 9)) (defScope (top 9)) .none kV2 dc2 pm2 an2 cd2 ct2), sl2⟩) (e2 : PySem.W.codeIn K cd2 "is_cell" = true) (k2 : PySem.W.keepIn K (.ref f2) = true)
    (a4 : PySem.W.nsIn K mainGlobals "is_rising" = some (some (.ref f4))) (l4 : K.lookup f4 = some ⟨oc4, od4, .func (PySem.W.fnOf "is_rising" "is_rising" (defArgs (top 10)) (defBody (top 10)) (defScope (top 10)) .none kV4 dc4 pm4 an4 cd4 ct4), sl4⟩) (e4 : PySem.W.codeIn K cd4 "is_rising" = true) (k4 : PySem.W.keepIn K (.ref f4) = true)
    (a5 : PySem.W.nsIn K mainGlobals "is_floor" = some (some (.ref f5))) (l5 : K.lookup f5 = some ⟨oc5, od5, .func (PySem.W.fnOf "is_floor" "is_floor" (defArgs (top 11)) (defBody (top 11)) (defScope (top 11)) .none kV5 dc5 pm5 an5 cd5 ct5), sl5⟩) (e5 : PySem.W.codeIn K cd5 "is_floor" = true) (k5 : PySem.W.keepIn K (.ref f5) = true)
    (a6 : PySem.W.nsIn K mainGlobals "checked" = some (some (.ref f6))) (l6 : K.lookup f6 = some ⟨oc6, od6, .func (PySem.W.fnOf "checked" "checked" (defArgs (top 12)) (defBody (top 12)) (defScope (top 12)) .none kV6 dc6 pm6 an6 cd6 ct6), sl6⟩) (e6 : PySem.W.codeIn K cd6 "checked" = true) (k6 : PySem.W.keepIn K (.ref f6) = true)
    (a13 : PySem.W.nsIn K mainGlobals "_law_cell" = some (some (.ref f13))) (l13 : K.lookup f13 = some ⟨oc13, od13, .func (PySem.W.fnOf "_law_cell" "_law_cell" (defArgs (top 19)) (defBody (top 19)) (defScope (top 19)) .none kV13 dc13 pm13 an13 cd13 ct13), sl13⟩) (e13 : PySem.W.codeIn K cd13 "_law_cell" = true) (k13 : PySem.W.keepIn K (.ref f13) = true)
    (a14 : PySem.W.nsIn K mainGlobals "_law_mix" = some (some (.ref f14))) (l14 : K.lookup f14 = some ⟨oc14, od14, .func (PySem.W.fnOf "_law_mix" "_law_mix" (defArgs (top 20)) (defBody (top 20)) (defScope (top 20)) .none kV14 dc14 pm14 an14 cd14 ct14), sl14⟩) (e14 : PySem.W.codeIn K cd14 "_law_mix" = true) (k14 : PySem.W.keepIn K (.ref f14) = true)
    (a15 : PySem.W.nsIn K mainGlobals "_law_floor" = some (some (.ref f15))) (l15 : K.lookup f15 = some ⟨oc15, od15, .func (PySem.W.fnOf "_law_floor" "_law_floor" (defArgs (top 21)) (defBody (top 21)) (defScope (top 21)) .none kV15 dc15 pm15 an15 cd15 ct15), sl15⟩) (e15 : PySem.W.codeIn K cd15 "_law_floor" = true) (k15 : PySem.W.keepIn K (.ref f15) = true)
    (a86 : PySem.W.nsIn K mainGlobals "shown_line" = some (some (.ref f86))) (l86 : K.lookup f86 = some ⟨oc86, od86, .func (PySem.W.fnOf "shown_line" "shown_line" (defArgs (top 14)) (defBody (top 14)) (defScope (top 14)) .none kV86 dc86 pm86 an86 cd86 ct86), sl86⟩) (e86 : PySem.W.codeIn K cd86 "shown_line" = true) (k86 : PySem.W.keepIn K (.ref f86) = true)
    (a87 : PySem.W.nsIn K mainGlobals "shown" = some (some (.ref f87))) (l87 : K.lookup f87 = some ⟨oc87, od87, .func (PySem.W.fnOf "shown" "shown" (defArgs (top 15)) (defBody (top 15)) (defScope (top 15)) .none kV87 dc87 pm87 an87 cd87 ct87), sl87⟩) (e87 : PySem.W.codeIn K cd87 "shown" = true) (k87 : PySem.W.keepIn K (.ref f87) = true)
    (a98 : PySem.W.nsIn K mainGlobals "cells_in" = some (some (.ref f98))) (l98 : K.lookup f98 = some ⟨oc98, od98, .func (PySem.W.fnOf "cells_in" "cells_in" (defArgs (top 16)) (defBody (top 16)) (defScope (top 16)) .none kV98 dc98 pm98 an98 cd98 ct98), sl98⟩) (e98 : PySem.W.codeIn K cd98 "cells_in" = true) (k98 : PySem.W.keepIn K (.ref f98) = true)
    (a99 : PySem.W.nsIn K mainGlobals "read" = some (some (.ref f99))) (l99 : K.lookup f99 = some ⟨oc99, od99, .func (PySem.W.fnOf "read" "read" (defArgs (top 17)) (defBody (top 17)) (defScope (top 17)) .none kV99 dc99 pm99 an99 cd99 ct99), sl99⟩) (e99 : PySem.W.codeIn K cd99 "read" = true) (k99 : PySem.W.keepIn K (.ref f99) = true)
    (a103 : PySem.W.nsIn K mainGlobals "law" = some (some (.ref f103))) (l103 : K.lookup f103 = some ⟨oc103, od103, .func (PySem.W.fnOf "law" "law" (defArgs (top 22)) (defBody (top 22)) (defScope (top 22)) .none kV103 dc103 pm103 an103 cd103 ct103), sl103⟩) (e103 : PySem.W.codeIn K cd103 "law" = true) (k103 : PySem.W.keepIn K (.ref f103) = true)
    (z_isinstance : PySem.W.nsIn K mainGlobals "isinstance" = some none)
    (z_int : PySem.W.nsIn K mainGlobals "int" = some none)
    (z_bool : PySem.W.nsIn K mainGlobals "bool" = some none)
    (z_len : PySem.W.nsIn K mainGlobals "len" = some none)
    (z_tuple : PySem.W.nsIn K mainGlobals "tuple" = some none)
    (z_range : PySem.W.nsIn K mainGlobals "range" = some none)
    (z_all : PySem.W.nsIn K mainGlobals "all" = some none)
    (z_max : PySem.W.nsIn K mainGlobals "max" = some none)
    (z_enumerate : PySem.W.nsIn K mainGlobals "enumerate" = some none)
    (z_str : PySem.W.nsIn K mainGlobals "str" = some none)
    (c0 : PySem.W.nsIn K mainGlobals "LAST_LINE" = some (some (.int 7 t0)))
    (c1 : PySem.W.nsIn K mainGlobals "MOST_CELLS" = some (some (.int 24 t1)))
    : ∃ F FD TK, Txt K mg F FD TK ∧ F 103 = f103 ∧ (∀ (s : Shared) (u : Value), BindsTo s (FD 103) ⟨[u], []⟩ [("_law_script", u)]) :=
  ⟨fun i => match i with
     | 1 => f1
     | 2 => f2
     | 4 => f4
     | 5 => f5
     | 6 => f6
     | 13 => f13
     | 14 => f14
     | 15 => f15
     | 86 => f86
     | 87 => f87
     | 98 => f98
     | 99 => f99
     | 103 => f103
     | _ => f0,
   fun i => match i with
     | 1 => PySem.W.fnOf "is_couple" "is_couple" (defArgs (top 8)) (defBody (top 8)) (defScope (top 8)) .none kV1 dc1 pm1 an1 cd1 ct1
     | 2 => PySem.W.fnOf "is_cell" "is_cell" (defArgs (top 9)) (defBody (top 9)) (defScope (top 9)) .none kV2 dc2 pm2 an2 cd2 ct2
     | 4 => PySem.W.fnOf "is_rising" "is_rising" (defArgs (top 10)) (defBody (top 10)) (defScope (top 10)) .none kV4 dc4 pm4 an4 cd4 ct4
     | 5 => PySem.W.fnOf "is_floor" "is_floor" (defArgs (top 11)) (defBody (top 11)) (defScope (top 11)) .none kV5 dc5 pm5 an5 cd5 ct5
     | 6 => PySem.W.fnOf "checked" "checked" (defArgs (top 12)) (defBody (top 12)) (defScope (top 12)) .none kV6 dc6 pm6 an6 cd6 ct6
     | 13 => PySem.W.fnOf "_law_cell" "_law_cell" (defArgs (top 19)) (defBody (top 19)) (defScope (top 19)) .none kV13 dc13 pm13 an13 cd13 ct13
     | 14 => PySem.W.fnOf "_law_mix" "_law_mix" (defArgs (top 20)) (defBody (top 20)) (defScope (top 20)) .none kV14 dc14 pm14 an14 cd14 ct14
     | 15 => PySem.W.fnOf "_law_floor" "_law_floor" (defArgs (top 21)) (defBody (top 21)) (defScope (top 21)) .none kV15 dc15 pm15 an15 cd15 ct15
     | 86 => PySem.W.fnOf "shown_line" "shown_line" (defArgs (top 14)) (defBody (top 14)) (defScope (top 14)) .none kV86 dc86 pm86 an86 cd86 ct86
     | 87 => PySem.W.fnOf "shown" "shown" (defArgs (top 15)) (defBody (top 15)) (defScope (top 15)) .none kV87 dc87 pm87 an87 cd87 ct87
     | 98 => PySem.W.fnOf "cells_in" "cells_in" (defArgs (top 16)) (defBody (top 16)) (defScope (top 16)) .none kV98 dc98 pm98 an98 cd98 ct98
     | 99 => PySem.W.fnOf "read" "read" (defArgs (top 17)) (defBody (top 17)) (defScope (top 17)) .none kV99 dc99 pm99 an99 cd99 ct99
     | 103 => PySem.W.fnOf "law" "law" (defArgs (top 22)) (defBody (top 22)) (defScope (top 22)) .none kV103 dc103 pm103 an103 cd103 ct103
     | _ => PySem.W.fnOf "is_whole" "is_whole" (defArgs (top 7)) (defBody (top 7)) (defScope (top 7)) .none kV0 dc0 pm0 an0 cd0 ct0,
   fun i => [t0, t1].getD i 0,
   {
     m0 := PySem.W.mg_of X G a0
     f0 := fun_mk (st := top 7) l0 e0 k0
     b0 := (fun_mk (st := top 7) l0 e0 k0).binds (ps := psOf 0) fun _ _ _ _ _ _ us hl => match us, hl with | [_, _, _], _ => rfl
     m1 := PySem.W.mg_of X G a1
     f1 := fun_mk (st := top 8) l1 e1 k1
     b1 := (fun_mk (st := top 8) l1 e1 k1).binds (ps := psOf 1) fun _ _ _ _ _ _ us hl => match us, hl with | [_], _ => rfl
     m2 := PySem.W.mg_of X G a2
     f2 := fun_mk (st := top 9) l2 e2 k2
     b2 := (fun_mk (st := top 9) l2 e2 k2).binds (ps := psOf 2) fun _ _ _ _ _ _ us hl => match us, hl with | [_], _ => rfl
     m4 := PySem.W.mg_of X G a4
     f4 := fun_mk (st := top 10) l4 e4 k4
     b4 := (fun_mk (st := top 10) l4 e4 k4).binds (ps := psOf 4) fun _ _ _ _ _ _ us hl => match us, hl with | [_], _ => rfl
     m5 := PySem.W.mg_of X G a5
     f5 := fun_mk (st := top 11) l5 e5 k5
     b5 := (fun_mk (st := top 11) l5 e5 k5).binds (ps := psOf 5) fun _ _ _ _ _ _ us hl => match us, hl with | [_], _ => rfl
     m6 := PySem.W.mg_of X G a6
     f6 := fun_mk (st := top 12) l6 e6 k6
     b6 := (fun_mk (st := top 12) l6 e6 k6).binds (ps := psOf 6) fun _ _ _ _ _ _ us hl => match us, hl with | [_], _ => rfl
     m13 := PySem.W.mg_of X G a13
     f13 := fun_mk (st := top 19) l13 e13 k13
     b13 := (fun_mk (st := top 19) l13 e13 k13).binds (ps := psOf 13) fun _ _ _ _ _ _ us hl => match us, hl with | [_, _], _ => rfl
     m14 := PySem.W.mg_of X G a14
     f14 := fun_mk (st := top 20) l14 e14 k14
     b14 := (fun_mk (st := top 20) l14 e14 k14).binds (ps := psOf 14) fun _ _ _ _ _ _ us hl => match us, hl with | [_, _, _], _ => rfl
     m15 := PySem.W.mg_of X G a15
     f15 := fun_mk (st := top 21) l15 e15 k15
     b15 := (fun_mk (st := top 21) l15 e15 k15).binds (ps := psOf 15) fun _ _ _ _ _ _ us hl => match us, hl with | [_, _, _], _ => rfl
     m86 := PySem.W.mg_of X G a86
     f86 := fun_mk (st := top 14) l86 e86 k86
     b86 := (fun_mk (st := top 14) l86 e86 k86).binds (ps := psOf 86) fun _ _ _ _ _ _ us hl => match us, hl with | [_, _, _], _ => rfl
     m87 := PySem.W.mg_of X G a87
     f87 := fun_mk (st := top 15) l87 e87 k87
     b87 := (fun_mk (st := top 15) l87 e87 k87).binds (ps := psOf 87) fun _ _ _ _ _ _ us hl => match us, hl with | [_], _ => rfl
     m98 := PySem.W.mg_of X G a98
     f98 := fun_mk (st := top 16) l98 e98 k98
     b98 := (fun_mk (st := top 16) l98 e98 k98).binds (ps := psOf 98) fun _ _ _ _ _ _ us hl => match us, hl with | [_], _ => rfl
     m99 := PySem.W.mg_of X G a99
     f99 := fun_mk (st := top 17) l99 e99 k99
     b99 := (fun_mk (st := top 17) l99 e99 k99).binds (ps := psOf 99) fun _ _ _ _ _ _ us hl => match us, hl with | [_], _ => rfl
     m103 := PySem.W.mg_of X G a103
     f103 := fun_mk (st := top 22) l103 e103 k103
     b103 := (fun_mk (st := top 22) l103 e103 k103).binds (ps := psOf 103) fun _ _ _ _ _ _ us hl => match us, hl with | [_], _ => rfl
     z_isinstance := PySem.W.mg_none_of X G z_isinstance
     z_int := PySem.W.mg_none_of X G z_int
     z_bool := PySem.W.mg_none_of X G z_bool
     z_len := PySem.W.mg_none_of X G z_len
     z_tuple := PySem.W.mg_none_of X G z_tuple
     z_range := PySem.W.mg_none_of X G z_range
     z_all := PySem.W.mg_none_of X G z_all
     z_max := PySem.W.mg_none_of X G z_max
     z_enumerate := PySem.W.mg_none_of X G z_enumerate
     z_str := PySem.W.mg_none_of X G z_str
     c0 := PySem.W.mg_of X G c0
     c1 := PySem.W.mg_of X G c1
   }, rfl, fun s u => .of_eq rfl⟩
end
end LK
open PySem PySem.W PyProof.Rows
set_option maxRecDepth 100000 in
set_option maxHeartbeats 0 in
theorem PySem.Challenge.cw_leaperwalk_k18_texts_holds : PySem.Challenge.rw_leaperwalk_k18_texts.Holds := by
  w_on; o_law; k_head; (case hw => w_witness2)
  k_fill
  refine L2.walk_ofK (l := PySem.Challenge.rw_leaperwalk_k18_texts) (n := 63) (k := LK.depth) (x := "_law_script") (CX := L2.CX0) (sp := fun K => L2.LW.spA K (L2.LW.callA LK.U LK.fuel0 LK.depth) 103 []) rfl (by decide) rfl ⟨rfl, by decide, by decide⟩ (fun w h Y => PySem.W.kIn_of Y) ?F ?S ?C
  case F =>
    intro w mg fa h KX G hmg
    have TT := by
      refine' LK.txt_mk KX G ?a0 ?l0 ?e0 ?k0 ?a1 ?l1 ?e1 ?k1 ?a2 ?l2 ?e2 ?k2 ?a4 ?l4 ?e4 ?k4 ?a5 ?l5 ?e5 ?k5 ?a6 ?l6 ?e6 ?k6 ?a13 ?l13 ?e13 ?k13 ?a14 ?l14 ?e14 ?k14 ?a15 ?l15 ?e15 ?k15 ?a86 ?l86 ?e86 ?k86 ?a87 ?l87 ?e87 ?k87 ?a98 ?l98 ?e98 ?k98 ?a99 ?l99 ?e99 ?k99 ?a103 ?l103 ?e103 ?k103 ?z_isinstance ?z_int ?z_bool ?z_len ?z_tuple ?z_range ?z_all ?z_max ?z_enumerate ?z_str ?c0 ?c1
      (case a0 => k_is)
      (case l0 => k_is)
      (case e0 => k_is)
      (case k0 => k_is)
      (case a1 => k_is)
      (case l1 => k_is)
      (case e1 => k_is)
      (case k1 => k_is)
      (case a2 => k_is)
      (case l2 => k_is)
      (case e2 => k_is)
      (case k2 => k_is)
      (case a4 => k_is)
      (case l4 => k_is)
      (case e4 => k_is)
      (case k4 => k_is)
      (case a5 => k_is)
      (case l5 => k_is)
      (case e5 => k_is)
      (case k5 => k_is)
      (case a6 => k_is)
      (case l6 => k_is)
      (case e6 => k_is)
      (case k6 => k_is)
      (case a13 => k_is)
      (case l13 => k_is)
      (case e13 => k_is)
      (case k13 => k_is)
      (case a14 => k_is)
      (case l14 => k_is)
      (case e14 => k_is)
      (case k14 => k_is)
      (case a15 => k_is)
      (case l15 => k_is)
      (case e15 => k_is)
      (case k15 => k_is)
      (case a86 => k_is)
      (case l86 => k_is)
      (case e86 => k_is)
      (case k86 => k_is)
      (case a87 => k_is)
      (case l87 => k_is)
      (case e87 => k_is)
      (case k87 => k_is)
      (case a98 => k_is)
      (case l98 => k_is)
      (case e98 => k_is)
      (case k98 => k_is)
      (case a99 => k_is)
      (case l99 => k_is)
      (case e99 => k_is)
      (case k99 => k_is)
      (case a103 => k_is)
      (case l103 => k_is)
      (case e103 => k_is)
      (case k103 => k_is)
      (case z_isinstance => k_is)
      (case z_int => k_is)
      (case z_bool => k_is)
      (case z_len => k_is)
      (case z_tuple => k_is)
      (case z_range => k_is)
      (case z_all => k_is)
      (case z_max => k_is)
      (case z_enumerate => k_is)
      (case z_str => k_is)
      (case c0 => k_is)
      (case c1 => k_is)
    obtain ⟨F, FD, TK, T, e0, hb⟩ := TT
    have e1 := hmg.symm.trans T.m103
    cases e1
    exact ⟨_, hb, fun base _ _ => LK.all_ok T LK.depth 103⟩
  case S => exact fun K H a ns hl _ hS => L2.LW.law_sp (LK.law_true_k18 ns hl) hS
  case C => exact fun _ _ _ _ z => z
