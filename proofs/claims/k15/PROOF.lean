import PyProof.Rows.All
import Wide.All
import OpenK.AllK
import Wide.FinOn
import Lean
import PyProof.EqAt
import PyProof.EqKinds
import PyProof.TupleCall
import PyProof.SeqI3
import KE.KTupSum
import KE.LcSums
import KE.KDictSum
import KE.KTryMore
import PyProof.ExcBaseAll.ValueError
import OpenK.KOwn
import KE.RegKTryMore
import KE.RegKIsAll
import PyProof.ListMulRoad
import PyProof.Draws
import PyProof.EnumStmt
import PyProof.EnumMake
import PyProof.StrLawsTight
import PyProof.StrLawsChain
import PyProof.Rows.StrNews
import PyProof.Rows.StrJoin2
import PyProof.Rows.EnumRows
import PySem.Challenge.RW_leaperwalk_k15_whole_pairs_and_peace
set_option Elab.async false
set_option linter.all false
set_option maxRecDepth 100000
theorem jo1 {a b : Type} {x : Option a} {f : a → Option b} {y : b} : x.bind f = some y ↔ ∃ z, x = some z ∧ f z = some y := Option.bind_eq_some_iff
theorem jo2 {a b : Type} {x : Option a} {f : a → b} {y : b} : x.map f = some y ↔ ∃ z, x = some z ∧ f z = y := Option.map_eq_some_iff
set_option Elab.async false
set_option maxRecDepth 100000
namespace L2
open PySem PySem.Spec PyProof.Rows
noncomputable abbrev Key := Sum Int Str
noncomputable def zml : Key → Value → Bool
  | .inl k, v => Value.isInt k v
  | .inr x, v => Value.isStrOf x v
noncomputable def zy2 (w : World) : Key → Int
  | .inl k => hashInt k
  | .inr x => hashStr w x
theorem zbh : ∀ {k : Key} {v : Value}, zml k v = true → (∃ i t, k = Sum.inl i ∧ v = Value.int i t) ∨ (∃ x t, k = Sum.inr x ∧ v = Value.str x t)
  | .inl i, v, h => by
    obtain ⟨t, e⟩ := Value.isInt_shape (k := i) (v := v) h
    exact .inl ⟨i, t, rfl, e⟩
  | .inr x, v, h => by
    obtain ⟨t, e⟩ := Value.isStrOf_shape (x := x) (v := v) h
    exact .inr ⟨x, t, rfl, e⟩
theorem znb (i : Int) (t : Tok) : zml (.inl i) (.int i t) = true := by simp [zml, Value.isInt]
theorem znc (x : Str) (t : Tok) : zml (.inr x) (.str x t) = true := by simp [zml, Value.isStrOf]
theorem ztw (a b : Int) : decide ((Sum.inl a : Key) = Sum.inl b) = (a == b) := by
  by_cases e : a = b
  · subst e; simp
  · have h : ¬ (Sum.inl a : Key) = Sum.inl b := fun q => e (Sum.inl.inj q)
    rw [decide_eq_false h]
    exact (beq_eq_false_iff_ne.mpr e).symm
theorem ztx (a b : Str) : decide ((Sum.inr a : Key) = Sum.inr b) = decide (a = b) := by
  by_cases e : a = b
  · subst e; simp
  · have h : ¬ (Sum.inr a : Key) = Sum.inr b := fun q => e (Sum.inr.inj q)
    rw [decide_eq_false h, decide_eq_false e]
theorem zty (a : Int) (b : Str) : decide ((Sum.inl a : Key) = Sum.inr b) = false := decide_eq_false (fun q => nomatch q)
theorem ztz (a : Str) (b : Int) : decide ((Sum.inr a : Key) = Sum.inl b) = false := decide_eq_false (fun q => nomatch q)
noncomputable def zay (prog : Program) (w : World) : PySem.KeyKind prog w Key where
  is := zml
  hash := zy2 w
  inj := fun v a b ha hb => by
    rcases zbh ha with ⟨i, t, rfl, rfl⟩ | ⟨x, t, rfl, rfl⟩
    · rcases zbh hb with ⟨j, u, rfl, e⟩ | ⟨y, u, rfl, e⟩
      · injection e with e1 _; rw [e1]
      · exact nomatch e
    · rcases zbh hb with ⟨j, u, rfl, e⟩ | ⟨y, u, rfl, e⟩
      · exact nomatch e
      · injection e with e1 _; rw [e1]
  byValue := fun k v h => by
    rcases zbh h with ⟨i, t, rfl, rfl⟩ | ⟨x, t, rfl, rfl⟩ <;> rfl
  pyHash := fun hv h => by
    rcases zbh hv with ⟨i, t, rfl, rfl⟩ | ⟨x, t, rfl, rfl⟩
    · exact wpAny_pyHash_int h
    · exact wpAny_pyHash_str h
  eqBool := fun hu hv h => by
    rcases zbh hu with ⟨i, t, rfl, rfl⟩ | ⟨x, t, rfl, rfl⟩
    · rcases zbh hv with ⟨j, u, rfl, rfl⟩ | ⟨y, u, rfl, rfl⟩
      · rw [ztw] at h; exact wpAny_eqBool_int h
      · rw [zty] at h; exact SeqAt.EqAt.int_str i t y u _ _ _ _ h
    · rcases zbh hv with ⟨j, u, rfl, rfl⟩ | ⟨y, u, rfl, rfl⟩
      · rw [ztz] at h; exact SeqAt.EqAt.str_int x t j u _ _ _ _ h
      · rw [ztx] at h; exact wpAny_eqBool_str h
  «strs» := fun k x t v h => by
    rcases zbh h with ⟨i, u, rfl, e⟩ | ⟨y, u, rfl, e⟩
    · exact nomatch e
    · injection e with e1 _
      subst e1
      cases v <;> rfl
theorem zkg (prog : Program) (w : World) (i : Int) (t : Tok) : (zay prog w).is (.inl i) (.int i t) = true := znb i t
theorem zkh (prog : Program) (w : World) (x : Str) (t : Tok) : (zay prog w).is (.inr x) (.str x t) = true := znc x t
end L2
namespace L2
open PySem PySem.Spec PyProof.Rows
inductive V where
  | non | bl (b : Bool) | int (i : Int) | str (x : Str) | byt (b : Array UInt8) | flt (b : UInt64) | ref (a : Addr) | ty (n : String)
  deriving DecidableEq
noncomputable def RelV : V → Value → Prop
  | .non, u => u = Value.none
  | .bl b, u => u = Value.bool b
  | .int i, u => ∃ t, u = Value.int i t
  | .str x, u => ∃ t, u = Value.str x t
  | .byt b, u => ∃ t, u = Value.bytes b t
  | .flt b, u => ∃ t, u = Value.float b t
  | .ref a, u => u = Value.ref a
  | .ty n, u => u = Value.type n
noncomputable abbrev Vals : List V → List Value → Prop := Paired RelV
theorem Vals.length {xs : List V} {us : List Value} (r : Vals xs us) : xs.length = us.length := Paired.length r
theorem Vals.get : ∀ {xs : List V} {us : List Value} {i : Nat} {x : V}, Vals xs us → xs[i]? = some x → ∃ u, us[i]? = some u ∧ RelV x u
  | _, _, _, _, .nil, e => by simp at e
  | _, _, 0, _, .cons r _, e => by simp at e; subst e; exact ⟨_, rfl, r⟩
  | _, _, i + 1, x, .cons _ t, e => by
    obtain ⟨u, h1, h2⟩ := Vals.get (i := i) (x := x) t (by simpa using e)
    exact ⟨u, by simpa using h1, h2⟩
theorem Vals.append : ∀ {xs ys : List V} {us ws : List Value}, Vals xs us → Vals ys ws → Vals (xs ++ ys) (us ++ ws)
  | _, _, _, _, .nil, s => s
  | _, _, _, _, .cons r t, s => .cons r (Vals.append t s)
theorem Vals.take : ∀ {xs : List V} {us : List Value} (n : Nat), Vals xs us → Vals (xs.take n) (us.take n)
  | _, _, 0, _ => .nil
  | _, _, _ + 1, .nil => .nil
  | _, _, n + 1, .cons r t => .cons r (Vals.take n t)
theorem Vals.drop : ∀ {xs : List V} {us : List Value} (n : Nat), Vals xs us → Vals (xs.drop n) (us.drop n)
  | _, _, 0, r => r
  | _, _, _ + 1, .nil => .nil
  | _, _, n + 1, .cons _ t => Vals.drop n t
noncomputable def RelO : Option V → Option Value → Prop
  | some v, some u => RelV v u
  | none, none => True
  | _, _ => False
noncomputable def KV {κ : Type} : List (κ × V) → List (κ × Value) → Prop := Paired fun (p : κ × V) (q : κ × Value) => p.1 = q.1 ∧ RelV p.2 q.2
noncomputable def kV : Key → V
  | .inl i => .int i
  | .inr x => .str x
inductive HO where
  | lst (xs : List V)
  | tup (xs : List V)
  | dK (kvs : List (Key × V)) | dT (kvs : List (List Key × V))
  | set (S : Int → Bool) (n : Nat)
  | ins (C dx : Addr) (fs : List (Str × V))
  | own (x : Addr)
  | xd (fs : List (Str × V))
  | met (f x : Addr)
  | rng (lo hi : Int)
  | frz (o : Obj) (u : HO)
  | tbl (ps : Array Value)
  | ext (φ : Heap → Prop)
noncomputable abbrev Hp := Addr → Option HO
noncomputable def upd (H : Hp) (a : Addr) (o : HO) : Hp := fun b => if b = a then some o else H b
theorem za9 {H : Hp} {a : Addr} {o : HO} : upd H a o a = some o := by unfold upd; rw [if_pos rfl]
theorem za3 {H : Hp} {a b : Addr} {o : HO} (h : b ≠ a) : upd H a o b = H b := by unfold upd; rw [if_neg h]
theorem zrC {H : Hp} {a b : Addr} {o u : HO} (h : H a = some o) (h' : H b = some u) (d : o ≠ u) : a ≠ b := by
  intro e; subst e; rw [h] at h'; exact d (Option.some.inj h')
theorem zbu {H : Hp} {a b : Addr} {o : HO} (h : H a = some o) (h' : H b = none) : a ≠ b := by
  intro e; subst e; rw [h] at h'; cases h'
section
variable (P : Program) (w : World)
noncomputable def ObjOk (H : Hp) (h : Heap) (a : Addr) : HO → Prop
  | .lst xs => xs.length ≤ sizeLine ∧ ∃ (its : List Value) (n : Nat), Vals xs its ∧ h.get? a = some { cls := .type "list", data := .seq its.toArray n }
  | .tup xs => xs.length ≤ sizeLine ∧ ∃ its : List Value, Vals xs its ∧ IsTup h a its.toArray
  | .dK kvs => kvs.length ≤ sizeLine ∧ (a == sysModules) = false ∧ ∃ vs, KV kvs vs ∧ h.DictOf (zay P w) a vs
  | .dT kvs => kvs.length ≤ sizeLine ∧ (a == sysModules) = false ∧ ∃ xs : List (List Key × Addr × Value),
      Paired (fun (p : List Key × V) (q : List Key × Addr × Value) => p.1 = q.1 ∧ H q.2.1 = some (.tup (p.1.map kV)) ∧ RelV p.2 q.2.2) kvs xs ∧
      ∃ o es ep, h.get? a = some o ∧ o.ExactDict ∧ o.data = .dict es ep ∧ es.toList = xs.map (entryOfKey (tupleKind (zay P w))) ∧ (xs.map (·.1)).Nodup
  | .set S n => h.SetOf (intKind P w) a S n
  | .ins C dx fs => H dx = some (.own a) ∧ fs.length ≤ 1000 ∧ dx ≠ a ∧ h.get? a = some (PySem.W.instObj C dx) ∧
      ∃ mA, h.Ns1 dx mA ∧ (∀ f, RelO (fs.lookup f) (mA f)) ∧ PySem.Within mA (fs.map (·.1))
  | .own _ => ∃ o, h.get? a = some o
  | .xd fs => ∃ mA, h.Ns1 a mA ∧ ∀ f, RelO (fs.lookup f) (mA f)
  | .rng lo hi => ∃ t u v, h.get? a = some { cls := .type "range", data := .fields #[.int lo t, .int hi u, .int 1 v] }
  | .frz o u => h.get? a = some o ∧ ObjOk H h a u
  | .tbl ps => h.get? a = some { cls := .none, data := .fields ps }
  | .met f x => h.get? a = some (PySem.W.methodObj (.ref f) (.ref x))
  | .ext φ => φ h ∧ (∃ o, h.get? a = some o) ∧ ∀ h1 h2 : Heap, φ h1 → (∀ o, h1.get? a = some o → h2.get? a = some o) → φ h2
noncomputable def HOk (H : Hp) (h : Heap) : Prop := ∀ a o, H a = some o → ObjOk P w H h a o
end
section
variable {P : Program} {w : World} {H H' : Hp} {h h' : Heap} {a : Addr} {o : HO}
theorem ObjOk.lt (x : ObjOk P w H h a o) : a < h.objs.size := by
  cases o with
  | lst xs => obtain ⟨_, _, _, _, e⟩ := x; exact Heap.lt_size e
  | tup xs => obtain ⟨_, _, _, p⟩ := x; exact p.lt
  | dK kvs => obtain ⟨_, _, _, _, o, _, _, e, _⟩ := x; exact Heap.lt_size e
  | dT kvs => obtain ⟨_, _, _, _, o, _, _, e, _⟩ := x; exact Heap.lt_size e
  | set S n => obtain ⟨o, _, _, _, e, _⟩ := x; exact Heap.lt_size e
  | ins C dx fs => obtain ⟨_, _, _, e, _⟩ := x; exact Heap.lt_size e
  | own y => obtain ⟨_, e⟩ := x; exact Heap.lt_size e
  | xd fs => obtain ⟨_, ⟨_, _, _, e, _⟩, _⟩ := x; exact Heap.lt_size e
  | rng lo hi => obtain ⟨_, _, _, e⟩ := x; exact Heap.lt_size e
  | frz ob u => obtain ⟨e, _⟩ := x; exact Heap.lt_size e
  | tbl ps => exact Heap.lt_size (show h.get? a = some _ from x)
  | met f y => exact Heap.lt_size (show h.get? a = some _ from x)
  | ext φ => obtain ⟨_, ⟨_, e⟩, _⟩ := x; exact Heap.lt_size e
theorem Paired.mapP {α β : Type} {F G : α → β → Prop} : ∀ {l₁ : List α} {l₂ : List β}, Paired F l₁ l₂ → (∀ a b, F a b → G a b) → Paired G l₁ l₂
  | _, _, .nil, _ => .nil
  | _, _, .cons r t, f => .cons (f _ _ r) (Paired.mapP t f)
theorem Paired.imp' {α β : Type} {F G : α → β → Prop} (f : ∀ a b, F a b → G a b) {l₁ : List α} {l₂ : List β} (r : Paired F l₁ l₂) : Paired G l₁ l₂ := Paired.mapP r f
theorem ObjOk.stay (x : ObjOk P w H h a o) (k : ∀ b u, (b = a ∨ H b = some (.own a)) → h.get? b = some u → h'.get? b = some u)
    (ho : ∀ b, H b = some (.own a) → H' b = some (.own a)) (ht : ∀ b xs, H b = some (.tup xs) → H' b = some (.tup xs)) : ObjOk P w H' h' a o := by
  induction o with
  | lst xs => obtain ⟨z, its, n, r, e⟩ := x; exact ⟨z, its, n, r, k _ _ (.inl rfl) e⟩
  | tup xs => obtain ⟨z, its, r, ob, e, c⟩ := x; exact ⟨z, its, r, ob, k _ _ (.inl rfl) e, c⟩
  | dK kvs => obtain ⟨z, y, vs, r, ob, es, ep, e, c⟩ := x; exact ⟨z, y, vs, r, ob, es, ep, k _ _ (.inl rfl) e, c⟩
  | dT kvs =>
    obtain ⟨z, y, xs, r, ob, es, ep, e, c⟩ := x
    exact ⟨z, y, xs, Paired.mapP r fun p q z => ⟨z.1, ht _ _ z.2.1, z.2.2⟩, ob, es, ep, k _ _ (.inl rfl) e, c⟩
  | set S n => obtain ⟨ob, es, ep, t, e, c⟩ := x; exact ⟨ob, es, ep, t, k _ _ (.inl rfl) e, c⟩
  | ins C dx fs =>
    obtain ⟨d, z, ne, e, mA, ⟨od, es, ep, e2, c⟩, r⟩ := x
    exact ⟨ho _ d, z, ne, k _ _ (.inl rfl) e, mA, ⟨od, es, ep, k _ _ (.inr d) e2, c⟩, r⟩
  | own y => obtain ⟨ob, e⟩ := x; exact ⟨ob, k _ _ (.inl rfl) e⟩
  | xd fs => obtain ⟨mA, ⟨od, es, ep, e, c⟩, r⟩ := x; exact ⟨mA, ⟨od, es, ep, k _ _ (.inl rfl) e, c⟩, r⟩
  | rng lo hi => obtain ⟨t, u, v, e⟩ := x; exact ⟨t, u, v, k _ _ (.inl rfl) e⟩
  | frz ob u ih => obtain ⟨e, q⟩ := x; exact ⟨k _ _ (.inl rfl) e, ih q⟩
  | tbl ps =>
    have e : h.get? a = some { cls := .none, data := .fields ps } := x
    show h'.get? a = some { cls := .none, data := .fields ps }
    exact k a _ (.inl rfl) e
  | met f y =>
    have e : h.get? a = some (PySem.W.methodObj (.ref f) (.ref y)) := x
    show h'.get? a = some (PySem.W.methodObj (.ref f) (.ref y))
    exact k a _ (.inl rfl) e
  | ext φ => obtain ⟨p, ⟨o, e⟩, st⟩ := x; exact ⟨st _ _ p fun o q => k _ _ (.inl rfl) q, ⟨o, k _ _ (.inl rfl) e⟩, st⟩
theorem HOk.lt (x : HOk P w H h) (e : H a = some o) : a < h.objs.size := (x a o e).lt
theorem HOk.fresh (x : HOk P w H h) (e : h.objs.size ≤ a) : H a = none := by
  cases q : H a with
  | none => rfl
  | some u => exact absurd (Nat.lt_of_lt_of_le (x.lt q) e) (Nat.lt_irrefl _)
theorem HOk.kept (x : HOk P w H h) (k : ∀ b u, h.get? b = some u → h'.get? b = some u) : HOk P w H h' := fun a o e =>
  (x a o e).stay (fun b u _ q => k b u q) (fun _ q => q) fun _ _ q => q
theorem HOk.laid (x : HOk P w H h) (k : ∀ b u, h.get? b = some u → h'.get? b = some u) (hp : h.objs.size ≤ a) (new : ObjOk P w (upd H a o) h' a o) : HOk P w (upd H a o) h' := fun b u e => by
  have hn := x.fresh hp
  by_cases hb : b = a
  · subst hb; rw [za9] at e; cases e; exact new
  · rw [za3 hb] at e
    exact (x b u e).stay (fun c v _ q => k c v q) (fun c q => by rw [za3 (zbu q hn)]; exact q) fun c xs q => by rw [za3 (zbu q hn)]; exact q
end
noncomputable def Rd (H : Hp) (a : Addr) (u : HO) : Prop := H a = some u ∨ ∃ o, H a = some (.frz o u)
theorem Rd.ok {P : Program} {w : World} {H : Hp} {h : Heap} {a : Addr} {u : HO} (r : Rd H a u) (x : HOk P w H h) : ObjOk P w H h a u := by
  rcases r with r | ⟨o, r⟩
  · exact x a u r
  · obtain ⟨_, q⟩ := x a _ r
    exact q
noncomputable def Mut : Option HO → Prop
  | some (.lst _) => True
  | some (.dK _) => True
  | some (.dT _) => True
  | some (.set _ _) => True
  | some (.ins _ _ _) => True
  | some (.ext _) => True
  | _ => False
section
variable {P : Program} {w : World} {H : Hp} {h h' : Heap} {x e : Addr} {o' : HO}
theorem HOk.write (ok : HOk P w H h) (mu : Mut (H x)) (he : e = x ∨ H e = some (.own x)) (k : ∀ b u, b ≠ e → h.get? b = some u → h'.get? b = some u) (heo : ∃ u, h'.get? e = some u)
    (new : ObjOk P w (upd H x o') h' x o') : HOk P w (upd H x o') h' := fun b u q => by
  have nown : ∀ c y, H c = some (.own y) → c ≠ x := fun c y r z => by subst z; rw [r] at mu; exact mu
  have ntup : ∀ c xs, H c = some (.tup xs) → c ≠ x := fun c xs r z => by subst z; rw [r] at mu; exact mu
  by_cases hb : b = x
  · subst hb; rw [za9] at q; cases q; exact new
  · rw [za3 hb] at q
    by_cases hbe : b = e
    · have q' : H b = some (.own x) := by
        rcases he with z | z
        · exact absurd (hbe.trans z) hb
        · rw [hbe]; exact z
      rw [q] at q'; cases q'
      obtain ⟨v, hv⟩ := heo
      exact ⟨v, by rw [hbe]; exact hv⟩
    · refine (ok b u q).stay (fun c v hc r => k c v ?_ r) (fun c r => by rw [za3 (nown c b r)]; exact r) fun c xs r => by rw [za3 (ntup c xs r)]; exact r
      rcases hc with rfl | hc
      · exact hbe
      · rintro rfl
        rcases he with z | z
        · exact nown c b hc z
        · rw [hc] at z; cases z; exact hb rfl
end
structure Un (fs ex : List Addr) (H H' : Hp) (h h' : Heap) : Prop where
  keep : ∀ b o, h.get? b = some o → H b = none → b ∉ fs → b ∉ ex → h'.get? b = some o
  slot : ∀ b o, h.get? b = some o → H b = none → b ∈ fs → b ∉ ex → ∃ sl, h'.get? b = some { o with slots := sl }
  free : ∀ b o, h.get? b = some o → H b = none → b ∉ ex → H' b = none
  there : ∀ b o, h.get? b = some o → b ∉ ex → ∃ o', h'.get? b = some o'
  tups : ∀ b xs, H b = some (.tup xs) → H' b = some (.tup xs)
  frzs : ∀ b o u, H b = some (.frz o u) → H' b = some (.frz o u)
  tbls : ∀ b ps, H b = some (.tbl ps) → ∃ more, H' b = some (.tbl (ps ++ more))
section
variable {fs fs' ex ex' : List Addr} {H H1 H2 : Hp} {h h1 h2 h' : Heap} {a x e : Addr} {o : HO}
theorem Un.any (u : Un fs ex H H1 h h1) {b : Addr} {ob : Obj} (q : h.get? b = some ob) (n : H b = none) (hx : b ∉ ex) : ∃ sl, h1.get? b = some { ob with slots := sl } := by
  by_cases hb : b ∈ fs
  · exact u.slot b ob q n hb hx
  · exact ⟨ob.slots, u.keep b ob q n hb hx⟩
theorem Un.kept (k : ∀ b u, h.get? b = some u → h'.get? b = some u) : Un fs ex H H h h' :=
  ⟨fun b ob q _ _ _ => k b ob q, fun b ob q _ _ _ => ⟨ob.slots, k b ob q⟩, fun _ _ _ n _ => n, fun b ob q _ => ⟨ob, k b ob q⟩, fun _ _ q => q, fun _ _ _ q => q, fun _ ps q => ⟨#[], by rw [q]; simp⟩⟩
theorem Un.refl : Un fs ex H H h h := Un.kept fun _ _ q => q
theorem Un.laid (k : ∀ b u, h.get? b = some u → h'.get? b = some u) (hp : h.objs.size ≤ a) (hn : H a = none) : Un fs ex H (upd H a o) h h' where
  keep := fun b u q _ _ _ => k b u q
  slot := fun b u q _ _ _ => ⟨u.slots, k b u q⟩
  free := fun b u q n _ => by rw [za3 (Nat.ne_of_lt (Nat.lt_of_lt_of_le (Heap.lt_size q) hp))]; exact n
  there := fun b u q _ => ⟨u, k b u q⟩
  tups := fun b xs q => by rw [za3 (zbu q hn)]; exact q
  frzs := fun b u xs q => by rw [za3 (zbu q hn)]; exact q
  tbls := fun b ps q => ⟨#[], by rw [za3 (zbu q hn), q]; simp⟩
theorem Un.write (mu : Mut (H x)) (he : e = x ∨ H e = some (.own x)) (k : ∀ b u, b ≠ e → h.get? b = some u → h'.get? b = some u) (heo : ∃ u, h'.get? e = some u) : Un fs ex H (upd H x o) h h' := by
  have hx : ∀ b, H b = none → b ≠ x := fun b n z => by subst z; rw [n] at mu; exact mu
  have hb : ∀ b, H b = none → b ≠ e := fun b n z => by
    subst z
    rcases he with r | r
    · exact hx b n r
    · rw [n] at r; cases r
  have hm : ∀ b u, H b = some u → ¬ Mut (some u) → b ≠ x := fun b u q nm z => by subst z; rw [q] at mu; exact nm mu
  refine ⟨fun b u q n _ _ => k b u (hb b n) q, fun b u q n _ _ => ⟨u.slots, k b u (hb b n) q⟩, fun b u q n _ => by rw [za3 (hx b n)]; exact n, fun b u q _ => ?_,
    fun b xs q => by rw [za3 (hm b _ q fun z => z)]; exact q, fun b u xs q => by rw [za3 (hm b _ q fun z => z)]; exact q, fun b ps q => ⟨#[], by rw [za3 (hm b _ q fun z => z), q]; simp⟩⟩
  by_cases hbe : b = e
  · subst hbe; exact heo
  · exact ⟨u, k b u hbe q⟩
end
noncomputable def trk (h : Heap) (H : Hp) : List Addr := (List.range h.objs.size).filter fun a => (H a).isSome
noncomputable def zpx (h : Heap) (H : Hp) : Heap := PySem.W.hideAll h (trk h H)
theorem znd (h : Heap) (H : Hp) : (zpx h H).objs.size = h.objs.size := PySem.W.hideAll_size _ _
theorem zpy {h : Heap} {H : Hp} {b : Addr} {o : Obj} (e : h.get? b = some o) (n : H b = none) : (zpx h H).get? b = some o :=
  PySem.W.hideAll_get _ e fun hm => by
    have q : (H b).isSome = true := (List.mem_filter.mp hm).2
    rw [n] at q; simp at q
theorem zrD {h : Heap} {H : Hp} {b : Addr} {o : Obj} (e : (zpx h H).get? b = some o) : h.get? b = some o ∧ H b = none := by
  have e' : h.get? b = some o := PySem.W.of_hideAll (trk h H) e
  refine ⟨e', ?_⟩
  cases q : H b with
  | none => rfl
  | some x =>
    have hm : b ∈ trk h H := List.mem_filter.mpr ⟨List.mem_range.mpr (Heap.lt_size e'), by simp [q]⟩
    have z : (zpx h H).get? b = none := PySem.W.hideAll_none (trk h H) hm
    rw [z] at e; cases e
noncomputable def zrE (g h : Heap) (L : Addr) : List (Addr × Obj) := (List.range h.objs.size).filterMap fun a => if a = L ∨ (g.get? a).isSome = true then none else (h.get? a).map fun o => (a, o)
noncomputable def zcO (g h : Heap) (L d : Addr) : List (Addr × Obj) := (zrE g h L).filter fun p => decide (p.1 ≠ d)
end L2
namespace L2
open PySem PySem.Spec PyProof.Rows
structure Mod (K : PySem.W.Frag) (mg : Str → Option Value) (base : Heap) : Prop where
  kin : K.In base
  glob : base.Ns mainGlobals mg
  blt : ∃ mb, base.Ns builtinsNs mb ∧ ∀ x : Str, x ≠ "__name__" → mb x = bootBuiltins x
  nolimit : base.NoLimit
structure Cx where
  prog : Program
  w : World
  K : PySem.W.Frag
  mg : Str → Option Value
  base : Heap
  A : Around
  N : List Str
  s₀ : Shared
  H₀ : Hp
  env : Env
  outer : List Env
  stack : List Env
  ex : List Addr
  fn : Str → Bool
  calm : Bool
  pn : List (Addr × Obj)
  xe : Value → Shared → Prop
noncomputable def frs (l : List Env) : List Addr := l.filterMap (·.frame)
noncomputable abbrev Cx.fs (X : Cx) : List Addr := frs X.outer
noncomputable def Vis (sc : Scope) (x : Str) : Prop := sc.names.lookup x = some .local ∨ sc.names.lookup x = some .cell ∨ sc.names.lookup x = some .free
noncomputable def Loc (sc : Scope) (x : Str) : Prop := sc.names.lookup x = some .local ∨ sc.names.lookup x = some .cell
noncomputable def zy3 (env : Env) (h : Heap) (m : Str → Option Value) (x : Str) (u : Value) : Prop :=
  (env.kindOf x = some .local ∧ m x = some u) ∨ ((env.kindOf x = some .cell ∨ env.kindOf x = some .free) ∧ ∃ c, env.cells.lookup x = some c ∧ h.IsCell c (some u))
structure Cx.Ok (X : Cx) : Prop where
  mod : Mod X.K X.mg X.base
  kind : X.env.scope.kind = .function
  glob : X.env.globals = mainGlobals
  blt : X.env.builtins = builtinsNs
  above : X.s₀.heap.objs.size ≤ X.env.locals
  inj : ∀ x y c, X.env.cells.lookup x = some c → X.env.cells.lookup y = some c → x = y
  has : ∀ x, (X.env.kindOf x = some .cell ∨ X.env.kindOf x = some .free) → ∃ c, X.env.cells.lookup x = some c
  cab : ∀ x c, X.fn x = true → X.env.cells.lookup x = some c → X.s₀.heap.objs.size ≤ c
  hd : X.calm = true → X.A.handled = none
  frames : X.A.frames = some X.stack
  stk : X.stack = X.outer ∨ (X.stack = X.env :: X.outer ∧ X.env.frame = some X.env.locals)
  exf : ∀ b ∈ X.ex, b ≠ X.env.locals ∧ ∀ x c, X.env.cells.lookup x = some c → c ≠ b
  bs : ∀ b o, X.base.get? b = some o → X.s₀.heap.get? b = some o ∧ X.H₀ b = none
  bsz : X.base.objs.size ≤ X.s₀.heap.objs.size
  noex : ∀ b o, X.base.get? b = some o → b ∉ X.ex
  exfs : ∀ b ∈ X.ex, b ∉ X.fs
  funs : X.s₀.heap.FunFrames X.base X.outer
  frf : ∀ b ∈ X.fs, X.H₀ b = none
structure Inv (X : Cx) (pins : List (Addr × Obj)) (σ : List (Option V)) (H : Hp) (s : Shared) : Prop where
  ok : X.Ok
  os : s.os = X.s₀.os
  bare : AllBare s.gens
  base : Un X.fs X.ex X.H₀ H X.s₀.heap s.heap
  loc : ∃ m, s.heap.Ns X.env.locals m ∧ ∀ (i : Nat) (x : Str) (v : V), X.N[i]? = some x → σ[i]? = some (some v) → Vis X.env.scope x → ∃ u, RelV v u ∧ zy3 X.env s.heap m x u
  cell : ∀ x c, X.env.cells.lookup x = some c → ∃ v, s.heap.IsCell c v
  free : H X.env.locals = none
  freeC : ∀ x c, X.env.cells.lookup x = some c → H c = none
  pin : ∀ p ∈ X.pn ++ pins, s.heap.get? p.1 = some p.2 ∧ H p.1 = none ∧ p.1 ≠ X.env.locals ∧ p.1 ∉ X.fs ∧ ∀ v, p.2.data ≠ .cell v
  hok : HOk X.prog X.w H s.heap
  len : σ.length = X.N.length
section
variable {X : Cx} {pins : List (Addr × Obj)} {σ : List (Option V)} {H H' : Hp} {s : Shared} {h' : Heap}
theorem Cx.Ok.nofr (ok : X.Ok) {b : Addr} {o : Obj} (e : X.base.get? b = some o) : b ∉ X.fs := fun hb => by
  have := (ok.funs.mem hb).1
  rw [e] at this; cases this
theorem Inv.bs (I : Inv X pins σ H s) : ∀ b o, X.base.get? b = some o → s.heap.get? b = some o ∧ H b = none := fun b o e =>
  ⟨I.base.keep b o (I.ok.bs b o e).1 (I.ok.bs b o e).2 (I.ok.nofr e) (I.ok.noex b o e), I.base.free b o (I.ok.bs b o e).1 (I.ok.bs b o e).2 (I.ok.noex b o e)⟩
theorem Inv.bk (I : Inv X pins σ H s) : ∀ b o, X.base.get? b = some o → s.heap.get? b = some o := fun b o e => (I.bs b o e).1
theorem Inv.mod (I : Inv X pins σ H s) : Mod X.K X.mg X.base := I.ok.mod
theorem Inv.kIn (I : Inv X pins σ H s) : X.K.In s.heap := I.ok.mod.kin.keeps I.bk
theorem Inv.lt (I : Inv X pins σ H s) : X.env.locals < s.heap.objs.size := let ⟨_, hn, _⟩ := I.loc; hn.lt
theorem Inv.sz (I : Inv X pins σ H s) : X.s₀.heap.objs.size ≤ s.heap.objs.size := Nat.le_trans I.ok.above (Nat.le_of_lt I.lt)
theorem Inv.nofs (I : Inv X pins σ H s) {a : Addr} (h : s.heap.objs.size ≤ a) : a ∉ X.fs := fun hb => by
  obtain ⟨_, o, ho, _⟩ := I.ok.funs.mem hb
  exact absurd (Nat.lt_of_lt_of_le (Heap.lt_size ho) (Nat.le_trans I.sz h)) (Nat.lt_irrefl _)
theorem Inv.cne (I : Inv X pins σ H s) : ∀ x c, X.env.cells.lookup x = some c → c ≠ X.env.locals := fun x c e z => by
  obtain ⟨v, o, ho, hd⟩ := I.cell x c e
  obtain ⟨m, ⟨o', es, ep, ho', hd', _⟩, _⟩ := I.loc
  rw [z, ho'] at ho; cases ho; rw [hd'] at hd; cases hd
theorem Inv.funs (I : Inv X pins σ H s) : s.heap.FunFrames X.base X.outer := by
  have all : ∀ (l : List Env), (∀ b ∈ frs l, b ∈ X.fs) → X.s₀.heap.FunFrames X.base l → s.heap.FunFrames X.base l := by
    intro l
    induction l with
    | nil => intro _ _; trivial
    | cons env r ih =>
      intro hs hl
      obtain ⟨hk, ⟨L, o, hf, hn, ho, hd⟩, hr⟩ := hl
      have hL : L ∈ X.fs := hs L (by unfold frs; rw [List.filterMap_cons, hf]; exact List.mem_cons_self)
      obtain ⟨sl, e⟩ := I.base.slot L o ho (I.ok.frf L hL) hL fun z => I.ok.exfs L z hL
      exact ⟨hk, ⟨L, _, hf, hn, e, hd⟩, ih (fun b hb => hs b (by unfold frs; rw [List.filterMap_cons, hf]; exact List.mem_cons_of_mem _ hb)) hr⟩
  exact all X.outer (fun _ hb => hb) I.ok.funs
theorem Inv.stack (I : Inv X pins σ H s) : s.heap.FunFrames X.base X.stack := by
  rcases I.ok.stk with e | ⟨e, hf⟩
  · rw [e]; exact I.funs
  · rw [e]
    obtain ⟨m, hn, _⟩ := I.loc
    refine .cons (by rw [I.ok.kind]; decide) hf hn ?_ I.funs
    exact Heap.get?_none_of_le (Nat.le_trans I.ok.bsz I.ok.above)
theorem Inv.stkSub (I : Inv X pins σ H s) : ∀ b ∈ frs X.stack, b ∈ X.env.locals :: X.fs := fun b hb => by
  rcases I.ok.stk with e | ⟨e, hf⟩
  · rw [e] at hb; exact List.mem_cons_of_mem _ hb
  · rw [e] at hb
    unfold frs at hb
    rw [List.filterMap_cons, hf] at hb
    exact hb
theorem Inv.stkFree (I : Inv X pins σ H s) : ∀ b ∈ frs X.stack, H b = none := fun b hb => by
  rcases List.mem_cons.mp (I.stkSub b hb) with e | hb
  · rw [e]; exact I.free
  · obtain ⟨_, o, ho, _⟩ := I.ok.funs.mem hb
    exact I.base.free b o ho (I.ok.frf b hb) fun z => I.ok.exfs b z hb
theorem Inv.step {g' : Array GenState} {t' : Nat} {d' : Drawn} {ch : List Addr} (I : Inv X pins σ H s)
    (hch : ∀ b ∈ ch, (b ∈ X.ex ∨ X.s₀.heap.objs.size ≤ b) ∧ b ≠ X.env.locals ∧ (∀ x c, X.env.cells.lookup x = some c → c ≠ b) ∧ ∀ p ∈ X.pn ++ pins, p.1 ≠ b)
    (keep : ∀ b o, b ≠ X.env.locals → b ∉ X.fs → b ∉ ch → s.heap.get? b = some o → H b = none → h'.get? b = some o)
    (slot : ∀ b o, b ≠ X.env.locals → b ∈ X.fs → b ∉ ch → s.heap.get? b = some o → H b = none → ∃ sl, h'.get? b = some { o with slots := sl }) (free : ∀ b o, b ∉ ch → s.heap.get? b = some o → H b = none → H' b = none)
    (there : ∀ b o, b ∉ ch → s.heap.get? b = some o → ∃ o', h'.get? b = some o')
    (tups : ∀ b xs, H b = some (.tup xs) → H' b = some (.tup xs)) (frzs : ∀ b o u, H b = some (.frz o u) → H' b = some (.frz o u)) (tbls : ∀ b ps, H b = some (.tbl ps) → ∃ more, H' b = some (.tbl (ps ++ more)))
    (ns : ∀ m, s.heap.Ns X.env.locals m → h'.Ns X.env.locals m) (hok : HOk X.prog X.w H' h') (hg : AllBare g') :
    Inv X pins σ H' { s with heap := h', gens := g', drawn := d', toks := t' } := by
  have neL : ∀ b o, X.s₀.heap.get? b = some o → b ≠ X.env.locals := fun b o e => Nat.ne_of_lt (Nat.lt_of_lt_of_le (Heap.lt_size e) I.ok.above)
  have neC : ∀ b o, X.s₀.heap.get? b = some o → b ∉ X.ex → b ∉ ch := fun b o e hx hb => by
    rcases (hch b hb).1 with z | z
    · exact hx z
    · exact absurd (Nat.lt_of_lt_of_le (Heap.lt_size e) z) (Nat.lt_irrefl _)
  have cellK : ∀ x c, X.env.cells.lookup x = some c → ∀ v, s.heap.IsCell c v → h'.IsCell c v := fun x c e v ⟨o, ho, hd⟩ => by
    have nch : c ∉ ch := fun z => (hch c z).2.2.1 x c e rfl
    by_cases hc : c ∈ X.fs
    · obtain ⟨sl, q⟩ := slot c o (I.cne x c e) hc nch ho (I.freeC x c e)
      exact ⟨_, q, hd⟩
    · exact ⟨o, keep c o (I.cne x c e) hc nch ho (I.freeC x c e), hd⟩
  refine ⟨I.ok, I.os, hg, ⟨fun b o e n hb hx => ?_, fun b o e n hb hx => ?_, fun b o e n hx => ?_, fun b o e hx => ?_, fun b xs e => tups b xs (I.base.tups b xs e), fun b o xs e => frzs b o xs (I.base.frzs b o xs e), fun b ps e => ?_⟩, ?_, fun x c e => ?_, ?_, fun x c e => ?_, fun p hp => ?_, hok, I.len⟩
  · exact keep b o (neL b o e) hb (neC b o e hx) (I.base.keep b o e n hb hx) (I.base.free b o e n hx)
  · obtain ⟨sl, e1⟩ := I.base.slot b o e n hb hx
    obtain ⟨sl', e2⟩ := slot b _ (neL b o e) hb (neC b o e hx) e1 (I.base.free b o e n hx)
    exact ⟨sl', e2⟩
  · obtain ⟨o', e1⟩ := I.base.there b o e hx
    exact free b o' (neC b o e hx) e1 (I.base.free b o e n hx)
  · obtain ⟨o', e1⟩ := I.base.there b o e hx
    exact there b o' (neC b o e hx) e1
  · obtain ⟨m1, e1⟩ := I.base.tbls b ps e
    obtain ⟨m2, e2⟩ := tbls b _ e1
    exact ⟨m1 ++ m2, by rw [e2, Array.append_assoc]⟩
  · obtain ⟨m, hn, hl⟩ := I.loc
    refine ⟨m, ns m hn, fun i x v e1 e2 e3 => ?_⟩
    obtain ⟨u, r, l⟩ := hl i x v e1 e2 e3
    refine ⟨u, r, ?_⟩
    rcases l with l | ⟨k, c, e, z⟩
    · exact .inl l
    · exact .inr ⟨k, c, e, cellK x c e _ z⟩
  · obtain ⟨v, z⟩ := I.cell x c e
    exact ⟨v, cellK x c e v z⟩
  · obtain ⟨m, ⟨o, _, _, ho, _⟩, _⟩ := I.loc
    exact free _ o (fun z => (hch _ z).2.1 rfl) ho I.free
  · obtain ⟨v, o, ho, hd⟩ := I.cell x c e
    exact free c o (fun z => (hch c z).2.2.1 x c e rfl) ho (I.freeC x c e)
  · obtain ⟨e, n, ne, nf, d⟩ := I.pin p hp
    have nch : p.1 ∉ ch := fun z => (hch p.1 z).2.2.2 p hp rfl
    exact ⟨keep p.1 p.2 ne nf nch e n, free p.1 p.2 nch e n, ne, nf, d⟩
theorem Inv.un {t' : Nat} (I : Inv X pins σ H s) (u : Un X.fs [] H H' s.heap h') (hok : HOk X.prog X.w H' h') : Inv X pins σ H' { s with heap := h', toks := t' } := by
  obtain ⟨m, ⟨o, es, ep, ho, r⟩, _⟩ := id I.loc
  obtain ⟨sl, hL⟩ := u.any ho I.free (by simp)
  exact I.step (g' := s.gens) (d' := s.drawn) (ch := []) (fun _ z => nomatch z) (fun b o _ hb _ e n => u.keep b o e n hb (by simp)) (fun b o _ hb _ e n => u.slot b o e n hb (by simp)) (fun b o _ e n => u.free b o e n (by simp)) (fun b o _ e => u.there b o e (by simp)) u.tups u.frzs u.tbls (fun m' hm => by
    obtain ⟨o', es', ep', ho', r'⟩ := hm
    rw [ho] at ho'; cases ho'
    exact ⟨_, es', ep', hL, r'⟩) hok I.bare
theorem Inv.call {g' : Array GenState} {t' : Nat} {d' : Drawn} {ch : List Addr} (I : Inv X pins σ H s) (u : Un (frs X.stack) ch H H' s.heap h') (hok : HOk X.prog X.w H' h') (hg : AllBare g')
    (hch : ∀ b ∈ ch, (b ∈ X.ex ∨ X.s₀.heap.objs.size ≤ b) ∧ b ≠ X.env.locals ∧ (∀ x c, X.env.cells.lookup x = some c → c ≠ b) ∧ ∀ p ∈ X.pn ++ pins, p.1 ≠ b) :
    Inv X pins σ H' { s with heap := h', gens := g', drawn := d', toks := t' } := by
  obtain ⟨m, ⟨o, es, ep, ho, r⟩, _⟩ := id I.loc
  obtain ⟨sl, hL⟩ := u.any ho I.free fun z => (hch _ z).2.1 rfl
  exact I.step (ch := ch) hch (fun b o hL hb hc e n => u.keep b o e n (fun z => (List.mem_cons.mp (I.stkSub b z)).elim hL hb) hc) (fun b o _ _ hc e n => u.any e n hc) (fun b o hc e n => u.free b o e n hc) (fun b o hc e => u.there b o e hc) u.tups u.frzs u.tbls (fun m' hm => by
    obtain ⟨o', es', ep', ho', r'⟩ := hm
    rw [ho] at ho'; cases ho'
    exact ⟨_, es', ep', hL, r'⟩) hok hg
theorem Inv.turned {t' : Nat} {it : Addr} (I : Inv X pins σ H s) (k : ∀ b o, b ≠ it → s.heap.get? b = some o → h'.get? b = some o) (hn : H it = none) (hL : it ≠ X.env.locals)
    (h1 : it ∈ X.ex ∨ X.s₀.heap.objs.size ≤ it) (h2 : ∀ x c, X.env.cells.lookup x = some c → c ≠ it) (h3 : ∀ p ∈ X.pn ++ pins, p.1 ≠ it) : Inv X pins σ H { s with heap := h', toks := t' } := by
  have nit : ∀ b u, H b = some u → b ≠ it := fun b u e z => by rw [z, hn] at e; cases e
  refine I.step (g' := s.gens) (d' := s.drawn) (ch := [it]) (fun b hb => ?_) (fun b o _ _ hc e _ => k b o (fun z => hc (by simp [z])) e) (fun b o _ _ hc e _ => ⟨o.slots, k b o (fun z => hc (by simp [z])) e⟩) (fun _ _ _ _ n => n)
    (fun b o hc e => ⟨o, k b o (fun z => hc (by simp [z])) e⟩) (fun _ _ e => e) (fun _ _ _ e => e) (fun b ps e => ⟨#[], by rw [e]; simp⟩) (fun m hm => ?_) (fun b u e => ?_) I.bare
  · have e : b = it := by simpa using hb
    subst e
    exact ⟨h1, hL, h2, h3⟩
  · obtain ⟨o, es, ep, ho, r⟩ := hm
    exact ⟨o, es, ep, k _ o (Ne.symm hL) ho, r⟩
  · refine (I.hok b u e).stay (fun c v hc q => k c v ?_ q) (fun _ q => q) fun _ _ q => q
    rcases hc with z | z
    · rw [z]; exact nit b u e
    · exact nit c _ z
theorem Inv.tok (I : Inv X pins σ H s) (t : Nat) : Inv X pins σ H { s with toks := t } := I.un (h' := s.heap) (t' := t) Un.refl I.hok
theorem Inv.kept {t' : Nat} (I : Inv X pins σ H s) (k : ∀ b u, s.heap.get? b = some u → h'.get? b = some u) : Inv X pins σ H { s with heap := h', toks := t' } := I.un (Un.kept k) (I.hok.kept k)
theorem Inv.laid {a : Addr} {o : HO} {t' : Nat} (I : Inv X pins σ H s) (k : ∀ b u, s.heap.get? b = some u → h'.get? b = some u) (hp : s.heap.objs.size ≤ a) (new : ObjOk X.prog X.w (upd H a o) h' a o) :
    Inv X pins σ (upd H a o) { s with heap := h', toks := t' } := I.un (Un.laid k hp (I.hok.fresh hp)) (I.hok.laid k hp new)
theorem Inv.write {x e : Addr} {o : HO} {t' : Nat} (I : Inv X pins σ H s) (mu : Mut (H x)) (he : e = x ∨ H e = some (.own x)) (k : ∀ b u, b ≠ e → s.heap.get? b = some u → h'.get? b = some u) (heo : ∃ u, h'.get? e = some u)
    (new : ObjOk X.prog X.w (upd H x o) h' x o) : Inv X pins σ (upd H x o) { s with heap := h', toks := t' } := I.un (Un.write mu he k heo) (I.hok.write mu he k heo new)
theorem Inv.pins_of {pins' : List (Addr × Obj)} (I : Inv X pins σ H s) (h : ∀ p ∈ pins', s.heap.get? p.1 = some p.2 ∧ H p.1 = none ∧ p.1 ≠ X.env.locals ∧ p.1 ∉ X.fs ∧ ∀ v, p.2.data ≠ .cell v) : Inv X pins' σ H s :=
  ⟨I.ok, I.os, I.bare, I.base, I.loc, I.cell, I.free, I.freeC, fun p hp => (List.mem_append.mp hp).elim (fun z => I.pin p (List.mem_append_left _ z)) (h p), I.hok, I.len⟩
theorem zk9 {N : List Str} (hN : N.Nodup) {i j : Nat} {x : Str} (a : N[i]? = some x) (b : N[j]? = some x) : i = j := by
  obtain ⟨h1, e1⟩ := List.getElem?_eq_some_iff.mp a
  obtain ⟨h2, e2⟩ := List.getElem?_eq_some_iff.mp b
  exact (List.getElem_inj hN).mp (e1.trans e2.symm)
theorem ziF {M : Model} {A : Around} {E : Value → Shared → Prop} {i : Nat} {x : Str} {v : V} {u : Value} {Q : Unit → Shared → Prop} (I : Inv X pins σ H s) (hN : X.N.Nodup) (hi : X.N[i]? = some x) (hx : Loc X.env.scope x) (r : RelV v u)
    (h : ∀ s', Inv X pins (σ.set i (some v)) H s' → (∃ a, Heap.SameBut a s.heap s'.heap ∧ (a = X.env.locals ∨ X.env.cells.lookup x = some a)) → Q () s') (hf : X.fn x = true ∨ X.env.scope.names.lookup x = some .local := by first | exact .inl rfl | exact .inr rfl | assumption) : wpAny M A (storeName X.env x u) Q E s := by
  obtain ⟨m, hn, hl⟩ := id I.loc
  have hcls : (X.env.scope.kind == .class || (X.env.scope.kind == .module && X.env.locals != X.env.globals)) = false := by rw [I.ok.kind]; rfl
  have hiσ : i < σ.length := by rw [I.len]; exact (List.getElem?_eq_some_iff.mp hi).1
  have cne := I.cne
  have tracked : ∀ {a : Addr} {h' : Heap}, (∃ o, s.heap.get? a = some o ∧ H a = none) → Heap.SameBut a s.heap h' → HOk X.prog X.w H h' := fun {a h'} ha hs b ob e => by
    obtain ⟨_, _, hfree⟩ := ha
    refine (I.hok b ob e).stay (fun c w' hc q => (hs.2 c ?_).trans q) (fun _ q => q) fun _ _ q => q
    rintro rfl
    rcases hc with rfl | hc
    · rw [hfree] at e; cases e
    · rw [hfree] at hc; cases hc
  rcases hx with hk | hk
  · refine wpAny_storeName_local hk hn (fun h' hn' hs => ?_) hcls
    obtain ⟨oL, _, _, hoL, _⟩ := id hn
    refine h _ ⟨I.ok, I.os, I.bare, ⟨fun b o e n hb hx => ?_, fun b o e n hb hx => ?_, I.base.free, fun b o e hx => ?_, I.base.tups, I.base.frzs, I.base.tbls⟩, ⟨_, hn', fun j y v' e1 e2 e3 => ?_⟩, fun y c e => ?_, I.free, I.freeC, fun p hp => ?_, tracked ⟨oL, hoL, I.free⟩ hs, by simpa using I.len⟩ ⟨_, hs, .inl rfl⟩
    · exact (hs.2 b (Nat.ne_of_lt (Nat.lt_of_lt_of_le (Heap.lt_size e) I.ok.above))).trans (I.base.keep b o e n hb hx)
    · obtain ⟨sl, e1⟩ := I.base.slot b o e n hb hx
      exact ⟨sl, (hs.2 b (Nat.ne_of_lt (Nat.lt_of_lt_of_le (Heap.lt_size e) I.ok.above))).trans e1⟩
    · obtain ⟨o', e1⟩ := I.base.there b o e hx
      exact ⟨o', (hs.2 b (Nat.ne_of_lt (Nat.lt_of_lt_of_le (Heap.lt_size e) I.ok.above))).trans e1⟩
    · by_cases hj : j = i
      · subst hj
        rw [hi] at e1; cases e1
        rw [List.getElem?_set_self hiσ] at e2
        cases e2
        exact ⟨u, r, .inl ⟨hk, by simp⟩⟩
      · rw [List.getElem?_set_ne (Ne.symm hj)] at e2
        obtain ⟨u', r', q⟩ := hl j y v' e1 e2 e3
        refine ⟨u', r', ?_⟩
        rcases q with ⟨k, e⟩ | ⟨k, c, e, z⟩
        · refine .inl ⟨k, ?_⟩
          have : y ≠ x := fun e => hj (zk9 hN e1 (e ▸ hi))
          simp [this, e]
        · exact .inr ⟨k, c, e, z.sameBut hs (cne y c e)⟩
    · obtain ⟨w', z⟩ := I.cell y c e
      exact ⟨w', z.sameBut hs (cne y c e)⟩
    · obtain ⟨e, n, ne, nf, d⟩ := I.pin p hp
      exact ⟨(hs.2 p.1 ne).trans e, n, ne, nf, d⟩
  · have hfn : X.fn x = true := by
      rcases hf with z | z
      · exact z
      · rw [z] at hk; cases hk
    obtain ⟨c, hc⟩ := I.ok.has x (.inl hk)
    obtain ⟨w', z⟩ := I.cell x c hc
    refine wpAny_storeName_cell I.ok.kind hk hc z (fun h' hc' hs => ?_)
    obtain ⟨oc, hoc, hocd⟩ := id z
    refine h { s with heap := h' } ⟨I.ok, I.os, I.bare, ⟨fun b o e n hb hx => ?_, fun b o e n hb hx => ?_, I.base.free, fun b o e hx => ?_, I.base.tups, I.base.frzs, I.base.tbls⟩, ⟨m, hn.sameBut hs (Ne.symm (cne x c hc)), fun j y v' e1 e2 e3 => ?_⟩, fun y c' e => ?_, I.free, I.freeC, fun p hp => ?_, tracked ⟨oc, hoc, I.freeC x c hc⟩ hs, by simpa using I.len⟩ ⟨c, hs, .inr hc⟩
    · exact (hs.2 b (Nat.ne_of_lt (Nat.lt_of_lt_of_le (Heap.lt_size e) (I.ok.cab x c hfn hc)))).trans (I.base.keep b o e n hb hx)
    · obtain ⟨sl, e1⟩ := I.base.slot b o e n hb hx
      exact ⟨sl, (hs.2 b (Nat.ne_of_lt (Nat.lt_of_lt_of_le (Heap.lt_size e) (I.ok.cab x c hfn hc)))).trans e1⟩
    · obtain ⟨o', e1⟩ := I.base.there b o e hx
      exact ⟨o', (hs.2 b (Nat.ne_of_lt (Nat.lt_of_lt_of_le (Heap.lt_size e) (I.ok.cab x c hfn hc)))).trans e1⟩
    · by_cases hj : j = i
      · subst hj
        rw [hi] at e1; cases e1
        rw [List.getElem?_set_self hiσ] at e2
        cases e2
        exact ⟨u, r, .inr ⟨.inl hk, c, hc, hc'⟩⟩
      · rw [List.getElem?_set_ne (Ne.symm hj)] at e2
        obtain ⟨u', r', q⟩ := hl j y v' e1 e2 e3
        refine ⟨u', r', ?_⟩
        rcases q with q | ⟨k, c', e, z'⟩
        · exact .inl q
        · refine .inr ⟨k, c', e, z'.sameBut hs ?_⟩
          rintro rfl
          exact hj (zk9 hN e1 (I.ok.inj _ _ _ e hc ▸ hi))
    · by_cases hcc : c' = c
      · subst hcc; exact ⟨_, hc'⟩
      · obtain ⟨w2, z2⟩ := I.cell y c' e
        exact ⟨w2, z2.sameBut hs hcc⟩
    · obtain ⟨e, n, ne, nf, d⟩ := I.pin p hp
      refine ⟨(hs.2 p.1 ?_).trans e, n, ne, nf, d⟩
      intro q
      rw [q, hoc] at e
      have q' : oc = p.2 := Option.some.inj e
      exact d w' (by rw [← q']; exact hocd)
theorem zla {M : Model} {A : Around} {E : Value → Shared → Prop} {i : Nat} {x : Str} {v : V} {u : Value} {Q : Unit → Shared → Prop} (I : Inv X pins σ H s) (hN : X.N.Nodup) (hi : X.N[i]? = some x) (hx : Loc X.env.scope x) (r : RelV v u)
    (h : ∀ s', Inv X pins (σ.set i (some v)) H s' → Q () s') (hf : X.fn x = true ∨ X.env.scope.names.lookup x = some .local := by first | exact .inl rfl | exact .inr rfl | assumption) : wpAny M A (storeName X.env x u) Q E s :=
  ziF I hN hi hx r (fun s' I' _ => h s' I') hf
theorem Inv.call' {s' : Shared} {ch : List Addr} (I : Inv X pins σ H s) (ho : s'.os = s.os) (u : Un (frs X.stack) ch H H' s.heap s'.heap) (hok : HOk X.prog X.w H' s'.heap) (hg : AllBare s'.gens)
    (hch : ∀ b ∈ ch, (b ∈ X.ex ∨ X.s₀.heap.objs.size ≤ b) ∧ b ≠ X.env.locals ∧ (∀ x c, X.env.cells.lookup x = some c → c ≠ b) ∧ ∀ p ∈ X.pn ++ pins, p.1 ≠ b) : Inv X pins σ H' s' := by
  obtain ⟨h', g', d', t', o'⟩ := s'
  have e : o' = s.os := ho
  subst e
  exact I.call (g' := g') (t' := t') (d' := d') u hok hg hch
end
noncomputable abbrev XK := Value → Option Addr → Hp → Prop
noncomputable abbrev St := List (Option V)
noncomputable abbrev VK := V → Hp → Prop
noncomputable abbrev TE := St → Hp → VK → Prop
noncomputable abbrev TT := St → Hp → (Bool → Hp → Prop) → Prop
noncomputable abbrev TA := St → Hp → (List V → Hp → Prop) → Prop
structure Ends where
  nx : St → Hp → Prop
  rt : VK
  bk : St → Hp → Prop := fun _ _ => False
  ct : St → Hp → Prop := fun _ _ => False
noncomputable abbrev TS := Ends → St → Hp → Prop
noncomputable def EP (X : Cx) (pins : List (Addr × Obj)) (σ : St) (Q : VK) (u : Value) (s' : Shared) : Prop := ∃ v H', Inv X pins σ H' s' ∧ RelV v u ∧ Q v H'
noncomputable def TP (X : Cx) (pins : List (Addr × Obj)) (σ : St) (Q : Bool → Hp → Prop) (b : Bool) (s' : Shared) : Prop := ∃ H', Inv X pins σ H' s' ∧ Q b H'
noncomputable def AP (X : Cx) (pins : List (Addr × Obj)) (σ : St) (Q : List V → Hp → Prop) (us : List Value) (s' : Shared) : Prop := ∃ vs H', Inv X pins σ H' s' ∧ Vals vs us ∧ Q vs H'
noncomputable def SP (X : Cx) (pins : List (Addr × Obj)) (D : Ends) (f : Flow) (s' : Shared) : Prop :=
  match f with
  | .next => ∃ σ' H', Inv X pins σ' H' s' ∧ D.nx σ' H'
  | .brk => ∃ σ' H', Inv X pins σ' H' s' ∧ D.bk σ' H'
  | .cont => ∃ σ' H', Inv X pins σ' H' s' ∧ D.ct σ' H'
  | .ret u => ∃ v σ' H', Inv X pins σ' H' s' ∧ RelV v u ∧ D.rt v H'
noncomputable def PE (X : Cx) (e : Expr) (t : TE) : Prop :=
  ∀ (pins : List (Addr × Obj)) (s : Shared) (σ : St) (H : Hp) (Q : VK), Inv X pins σ H s → t σ H Q → wpAny (model X.prog X.w) X.A (eval e X.env) (EP X pins σ Q) X.xe s
noncomputable def PT (X : Cx) (e : Expr) (t : TT) : Prop :=
  ∀ (pins : List (Addr × Obj)) (s : Shared) (σ : St) (H : Hp) (Q : Bool → Hp → Prop), Inv X pins σ H s → t σ H Q → wpAny (model X.prog X.w) X.A (isTrue e X.env (eval e X.env)) (TP X pins σ Q) X.xe s
noncomputable def PW (X : Cx) (e : Expr) (t : TT) : Prop :=
  ∀ (whole : Sem Value) (pins : List (Addr × Obj)) (s : Shared) (σ : St) (H : Hp) (Q : Bool → Hp → Prop), Inv X pins σ H s → t σ H Q → wpAny (model X.prog X.w) X.A (isTrue e X.env whole) (TP X pins σ Q) X.xe s
theorem PW.pt {X : Cx} {e : Expr} {t : TT} (h : PW X e t) : PT X e t := h _
noncomputable def PA (X : Cx) (es : List Expr) (t : TA) : Prop :=
  ∀ (pos : Pos) (pins : List (Addr × Obj)) (s : Shared) (σ : St) (H : Hp) (Q : List V → Hp → Prop), Inv X pins σ H s → t σ H Q → wpAny (model X.prog X.w) X.A (spliced (backTo pos (starEach es X.env))) (AP X pins σ Q) X.xe s
noncomputable def PS (X : Cx) (st : Stmt) (t : TS) : Prop :=
  ∀ (pins : List (Addr × Obj)) (s : Shared) (σ : St) (H : Hp) (D : Ends), Inv X pins σ H s → t D σ H → wpAny (model X.prog X.w) X.A (exec st X.env) (SP X pins D) X.xe s
noncomputable def PSs (X : Cx) (st : List Stmt) (t : TS) : Prop :=
  ∀ (pins : List (Addr × Obj)) (s : Shared) (σ : St) (H : Hp) (D : Ends), Inv X pins σ H s → t D σ H → wpAny (model X.prog X.w) X.A (execs st X.env) (SP X pins D) X.xe s
theorem thn {α : Type} {t : Sem α} {Q Q' : α → Shared → Prop} {M : Model} {A : Around} {E : Value → Shared → Prop} {s : Shared} (h : wpAny M A t Q E s) (hQ : ∀ a s, Q a s → Q' a s) : wpAny M A t Q' E s := wpAny_mono h hQ fun _ _ x => x
end L2
namespace L2
open PySem PySem.Spec PyProof.Rows
section
variable {X : Cx}
noncomputable def zy4 (i : Nat) : TE := fun σ H Q => ∃ v, σ[i]? = some (some v) ∧ Q v H
noncomputable def tC (v : V) : TE := fun _ H Q => Q v H
theorem zd3 {i : Nat} {x : Str} {pos : Pos} (hN : X.N[i]? = some x) (hv : Vis X.env.scope x) (hd : (x == ("__debug__" : Str)) = false := by decide) (hcd : (x == ("__classdict__" : Str)) = false := by decide) : PE X (.Name x pos) (zy4 i) := by
  intro pins s σ H Q I h
  obtain ⟨v, e, h⟩ := h
  obtain ⟨m, hn, hl⟩ := I.loc
  obtain ⟨u, r, l⟩ := hl i x v hN e hv
  have fin : EP X pins σ Q u s := ⟨v, H, I, r, h⟩
  rcases l with ⟨hk, hm⟩ | ⟨hk, c, hc, zgz⟩
  · exact wpAny_Name (wpAny_loadName_local I.ok.kind hk hn hm fin) hd
  · rcases hk with hk | hk
    · exact wpAny_Name (wpAny_loadName_cell I.ok.kind hk hc zgz fin) hd
    · exact wpAny_Name (wpAny_loadName_free I.ok.kind hk hc zgz fin hcd) hd
theorem ztA {i j pos} : PE X (.Constant (.int i) j pos) (tC (.int i)) := fun _ _ _ H _ I h => wpAny_Constant_int ⟨.int i, H, I.tok _, ⟨_, rfl⟩, h⟩
theorem zw8 {b j pos} : PE X (.Constant (.bool b) j pos) (tC (.bl b)) := fun _ _ _ H _ I h => Constant_bool ⟨.bl b, H, I, rfl, h⟩
theorem ztB {j pos} : PE X (.Constant .none j pos) (tC .non) := fun _ _ _ H _ I h => Constant_none ⟨.non, H, I, rfl, h⟩
theorem ztC {x j pos} : PE X (.Constant (.str x) j pos) (tC (.str x)) := fun _ _ _ H _ I h => Calls.Constant_str ⟨.str x, H, I.tok _, ⟨_, rfl⟩, h⟩
noncomputable def Gl (X : Cx) (x : Str) : Prop := X.env.kindOf x = some .globalImplicit
theorem zne {E : Value → Shared → Prop} {pins : List (Addr × Obj)} {s : Shared} {σ : St} {H : Hp} {x : Str} {u : Value} {pos : Pos} {Q : Value → Shared → Prop} (I : Inv X pins σ H s) (hg : Gl X x) (hm : X.mg x = some u) (h : Q u s)
    (hd : (x == ("__debug__" : Str)) = false := by decide) : wpAny (model X.prog X.w) X.A (eval (.Name x pos) X.env) Q E s :=
  Calls.Name_function_global I.ok.kind hg (Calls.loadGlobal_global (by rw [I.ok.glob]; exact I.mod.glob.keeps I.bk) hm h) hd
theorem ziG {E : Value → Shared → Prop} {pins : List (Addr × Obj)} {s : Shared} {σ : St} {H : Hp} {x : Str} {u : Value} {pos : Pos} {Q : Value → Shared → Prop} (I : Inv X pins σ H s) (hg : Gl X x) (hm : X.mg x = none) (hv : bootBuiltins x = some u) (h : Q u s)
    (hn : x ≠ "__name__" := by decide) (hd : (x == ("__debug__" : Str)) = false := by decide) : wpAny (model X.prog X.w) X.A (eval (.Name x pos) X.env) Q E s := by
  obtain ⟨mb, h1, h2⟩ := I.mod.blt
  exact Calls.Name_function_global I.ok.kind hg (Calls.loadGlobal_builtin (by rw [I.ok.glob]; exact I.mod.glob.keeps I.bk) hm (by rw [I.ok.blt]; exact h1.keeps I.bk) ((h2 x hn).trans hv) h) hd
theorem zrF {x : Str} {v : V} {u : Value} {pos : Pos} (hg : Gl X x) (hm : X.mg x = some u) (r : RelV v u) (hd : (x == ("__debug__" : Str)) = false := by decide) : PE X (.Name x pos) (tC v) :=
  fun _ _ _ H _ I h => zne I hg hm ⟨v, H, I, r, h⟩ hd
theorem zrG {x : Str} {v : V} {u : Value} {pos : Pos} (hg : Gl X x) (hm : X.mg x = none) (hv : bootBuiltins x = some u) (r : RelV v u) (hn : x ≠ "__name__" := by decide) (hd : (x == ("__debug__" : Str)) = false := by decide) : PE X (.Name x pos) (tC v) :=
  fun _ _ _ H _ I h => ziG I hg hm hv ⟨v, H, I, r, h⟩ hn hd
variable {a b : Expr} {ta tb : TE} {pos : Pos}
variable {tA tB' : TT} {zcO : List Expr}
noncomputable def zy5 (t u : TT) : TT := fun σ H Q => t σ H fun c H1 => if c = true then u σ H1 Q else Q false H1
noncomputable def tOr (t u : TT) : TT := fun σ H Q => t σ H fun c H1 => if c = true then Q true H1 else u σ H1 Q
noncomputable def zy6 (t : TT) : TT := fun σ H Q => t σ H fun c H1 => Q (!c) H1
theorem zrH (ha : PT X a tA) : PW X (.BoolOp .And [a] pos) tA := by
  intro wh pins s σ H Q I h
  refine isTrue_and (thn (ha pins s σ H Q I h) fun c s1 e => ?_)
  cases c with
  | true => exact isTrue_and_nil e
  | false => exact e
theorem zqP (ha : PT X a tA) : PW X (.BoolOp .Or [a] pos) tA := by
  intro wh pins s σ H Q I h
  refine isTrue_or (thn (ha pins s σ H Q I h) fun c s1 e => ?_)
  cases c with
  | false => exact isTrue_or_nil e
  | true => exact e
theorem ztD (ha : PT X a tA) (hb : PW X (.BoolOp .And (b :: zcO) pos) tB') : PW X (.BoolOp .And (a :: b :: zcO) pos) (zy5 tA tB') := by
  intro wh pins s σ H Q I h
  refine isTrue_and (thn (ha pins s σ H _ I h) fun c s1 ⟨H1, I1, q1⟩ => ?_)
  cases c with
  | true => exact hb wh pins s1 σ H1 Q I1 q1
  | false => exact ⟨H1, I1, q1⟩
theorem ztE (ha : PT X a tA) (hb : PW X (.BoolOp .Or (b :: zcO) pos) tB') : PW X (.BoolOp .Or (a :: b :: zcO) pos) (tOr tA tB') := by
  intro wh pins s σ H Q I h
  refine isTrue_or (thn (ha pins s σ H _ I h) fun c s1 ⟨H1, I1, q1⟩ => ?_)
  cases c with
  | true => exact ⟨H1, I1, q1⟩
  | false => exact hb wh pins s1 σ H1 Q I1 q1
theorem ztF (ha : PT X a tA) : PT X (.UnaryOp .Not a pos) (zy6 tA) := by
  intro pins s σ H Q I h
  exact isTrue_not (ha pins s σ H (fun c H1 => Q (!c) H1) I h)
noncomputable def zw9 (ta tb : TE) : TE := fun σ H Q => ta σ H fun x H1 => ∃ c, x = .bl c ∧ if c = true then tb σ H1 Q else Q (.bl false) H1
theorem ztG {op} {t : TE} (h : PE X a t) : PE X (.BoolOp op [a] pos) t := fun pins s σ H Q I hw => BoolOp_one (h pins s σ H Q I hw)
theorem ztH (ha : PE X a ta) (hb : PE X (.BoolOp .And (b :: zcO) pos) tb) : PE X (.BoolOp .And (a :: b :: zcO) pos) (zw9 ta tb) := by
  intro pins s σ H Q I h
  refine BoolOp_and (thn (ha pins s σ H _ I h) fun v s1 ⟨x, H1, I1, r1, q1⟩ => ?_)
  obtain ⟨c, rfl, q1⟩ := q1
  cases r1
  refine wpAny_truthy_bool ?_
  cases c with
  | true => exact hb pins s1 σ H1 Q I1 q1
  | false => exact ⟨.bl false, H1, I1, rfl, q1⟩
end
end L2
namespace L2
open PySem PySem.Spec PyProof.Rows
noncomputable def SqL (K : PySem.W.Frag) (H : Hp) (a : Addr) (xs : List V) : Prop :=
  Rd H a (.lst xs) ∨
    ∃ (o : Obj) (its : Array Value) (n : Nat), K.lookup a = some o ∧ o.cls = .type "list" ∧ o.dict = none ∧ o.data = .seq its n ∧ its.size ≤ sizeLine ∧ Vals xs its.toList
noncomputable def SqT (K : PySem.W.Frag) (H : Hp) (a : Addr) (xs : List V) : Prop :=
  Rd H a (.tup xs) ∨
    ∃ (o : Obj) (its : Array Value) (n : Nat), K.lookup a = some o ∧ o.cls = .type "tuple" ∧ o.data = .seq its n ∧ its.size ≤ sizeLine ∧ Vals xs its.toList
noncomputable def zy7 : Value → Option V
  | .none => some .non
  | .bool b => some (.bl b)
  | .int i _ => some (.int i)
  | .str x _ => some (.str x)
  | .bytes b _ => some (.byt b)
  | .float b _ => some (.flt b)
  | .ref a => some (.ref a)
  | .type n => some (.ty n)
  | _ => none
theorem RelV.abs {x : V} {u : Value} (r : RelV x u) : zy7 u = some x := by
  cases x with
  | non => cases r; rfl
  | bl _ => cases r; rfl
  | int _ => obtain ⟨t, rfl⟩ := r; rfl
  | str _ => obtain ⟨t, rfl⟩ := r; rfl
  | byt _ => obtain ⟨t, rfl⟩ := r; rfl
  | flt _ => obtain ⟨t, rfl⟩ := r; rfl
  | ref _ => cases r; rfl
  | ty _ => cases r; rfl
theorem RelV.inj {x y : V} {u : Value} (r : RelV x u) (q : RelV y u) : x = y := Option.some.inj (r.abs.symm.trans q.abs)
theorem Vals.inj : ∀ {xs ys : List V} {us : List Value}, Vals xs us → Vals ys us → xs = ys
  | _, _, _, .nil, .nil => rfl
  | _, _, _, .cons r t, .cons r' t' => by rw [r.inj r', Vals.inj t t']
section
variable {X : Cx} {pins : List (Addr × Obj)} {σ : St} {H : Hp} {s : Shared} {a : Addr} {xs ys : List V}
theorem SqL.of {K : PySem.W.Frag} (h : H a = some (.lst xs)) : SqL K H a xs := .inl (.inl h)
theorem SqT.of {K : PySem.W.Frag} (h : H a = some (.tup xs)) : SqT K H a xs := .inl (.inl h)
theorem Inv.list (I : Inv X pins σ H s) (h : SqL X.K H a xs) : ∃ its : List Value, Vals xs its ∧ PlainL s.heap a its.toArray ∧ xs.length ≤ sizeLine := by
  rcases h with h | ⟨o, its, n, hk, hc, hd, hs, hz, r⟩
  · obtain ⟨z, its, n, r, e⟩ := h.ok I.hok
    exact ⟨its, r, ⟨_, n, e, rfl, rfl, rfl⟩, z⟩
  · refine ⟨its.toList, r, ⟨o, n, I.kIn a o hk, hc, hd, by simpa using hs⟩, ?_⟩
    have e := r.length
    simp only [Array.length_toList] at e
    omega
theorem Inv.tuple (I : Inv X pins σ H s) (h : SqT X.K H a xs) : ∃ its : List Value, Vals xs its ∧ IsTup s.heap a its.toArray ∧ xs.length ≤ sizeLine := by
  rcases h with h | ⟨o, its, n, hk, hc, hs, hz, r⟩
  · obtain ⟨z, its, r, p⟩ := h.ok I.hok
    exact ⟨its, r, p, z⟩
  · refine ⟨its.toList, r, ⟨o, I.kIn a o hk, hc, n, by simpa using hs⟩, ?_⟩
    have e := r.length
    simp only [Array.length_toList] at e
    omega
theorem Inv.list_inj (I : Inv X pins σ H s) (h : SqL X.K H a xs) (h' : SqL X.K H a ys) : xs = ys := by
  obtain ⟨its, r, ⟨o, n, e, _, _, d⟩, _⟩ := I.list h
  obtain ⟨its', r', ⟨o', n', e', _, _, d'⟩, _⟩ := I.list h'
  rw [e] at e'; cases e'
  rw [d] at d'
  injection d' with d1 _
  have : its = its' := by simpa using congrArg Array.toList d1
  subst this
  exact r.inj r'
theorem Inv.tuple_inj (I : Inv X pins σ H s) (h : SqT X.K H a xs) (h' : SqT X.K H a ys) : xs = ys := by
  obtain ⟨its, r, ⟨o, e, _, n, d⟩, _⟩ := I.tuple h
  obtain ⟨its', r', ⟨o', e', _, n', d'⟩, _⟩ := I.tuple h'
  rw [e] at e'; cases e'
  rw [d] at d'
  injection d' with d1 _
  have : its = its' := by simpa using congrArg Array.toList d1
  subst this
  exact r.inj r'
end
noncomputable abbrev Cx.wish (X : Cx) (E : Value → Shared → Prop) : Cx := { X with xe := E }
noncomputable abbrev Cx.nox (X : Cx) : Cx := X.wish fun _ _ => False
theorem Cx.Ok.wish {X : Cx} (ok : X.Ok) (E : Value → Shared → Prop) : (X.wish E).Ok :=
  ⟨ok.mod, ok.kind, ok.glob, ok.blt, ok.above, ok.inj, ok.has, ok.cab, ok.hd, ok.frames, ok.stk, ok.exf, ok.bs, ok.bsz, ok.noex, ok.exfs, ok.funs, ok.frf⟩
theorem Cx.Ok.unwish {X : Cx} {E : Value → Shared → Prop} (ok : (X.wish E).Ok) : X.Ok :=
  ⟨ok.mod, ok.kind, ok.glob, ok.blt, ok.above, ok.inj, ok.has, ok.cab, ok.hd, ok.frames, ok.stk, ok.exf, ok.bs, ok.bsz, ok.noex, ok.exfs, ok.funs, ok.frf⟩
section
variable {X : Cx} {pins : List (Addr × Obj)} {σ : St} {H : Hp} {s : Shared} {E : Value → Shared → Prop}
theorem Inv.wish (I : Inv X pins σ H s) (E : Value → Shared → Prop) : Inv (X.wish E) pins σ H s := ⟨I.ok.wish E, I.os, I.bare, I.base, I.loc, I.cell, I.free, I.freeC, I.pin, I.hok, I.len⟩
theorem Inv.unwish (I : Inv (X.wish E) pins σ H s) : Inv X pins σ H s := ⟨I.ok.unwish, I.os, I.bare, I.base, I.loc, I.cell, I.free, I.freeC, I.pin, I.hok, I.len⟩
theorem SP.unwish {D : Ends} {f : Flow} {s' : Shared} (h : SP (X.wish E) pins D f s') : SP X pins D f s' := by
  cases f with
  | next => obtain ⟨σ', H', I, q⟩ := h; exact ⟨σ', H', I.unwish, q⟩
  | brk => obtain ⟨σ', H', I, q⟩ := h; exact ⟨σ', H', I.unwish, q⟩
  | cont => obtain ⟨σ', H', I, q⟩ := h; exact ⟨σ', H', I.unwish, q⟩
  | ret u => obtain ⟨v, σ', H', I, r, q⟩ := h; exact ⟨v, σ', H', I.unwish, r, q⟩
theorem PSs.nox {st : List Stmt} {t : TS} (h : PSs X.nox st t) : PSs X st t := fun pins s σ H D I hw =>
  wpAny_mono (h pins s σ H D (I.wish _) hw) (fun _ _ q => q.unwish) fun _ _ z => False.elim z
end
section
variable {X : Cx} {st : Stmt} {zcO : List Stmt} {t u : TS} {e : Expr} {te : TE} {pos : Pos}
noncomputable def zxa : TS := fun D σ H => D.nx σ H
noncomputable def zy8 (t u : TS) : TS := fun D σ H => t { D with nx := u D } σ H
theorem zrI : PSs X [] zxa := fun _ _ σ H _ I h => wpAny_execs_nil ⟨σ, H, I, h⟩
theorem zpz (h1 : PS X st t) (h2 : PSs X zcO u) : PSs X (st :: zcO) (zy8 t u) := by
  intro pins s σ H D I h
  refine wpAny_execs_cons (thn (h1 pins s σ H { D with nx := u D } I h) fun f s1 q => ?_)
  cases f with
  | next =>
    obtain ⟨σ', H', I', q⟩ := q
    exact h2 pins s1 σ' H' D I' q
  | ret v => exact q
  | brk => exact q
  | cont => exact q
theorem Inv.quiet {pins : List (Addr × Obj)} {σ : St} {H : Hp} {s : Shared} (I : Inv X pins σ H s) : interactive X.env = false := by simp [interactive, I.ok.kind]
noncomputable def zxb (te : TE) : TS := fun D σ H => te σ H fun _ H1 => D.nx σ H1
theorem zhp (he : PE X e te) (hs : swapsWith e none pos.line X.env = pure false := by rfl) : PS X (.Expr e pos) (zxb te) := by
  intro pins s σ H D I h
  exact wpAny_Expr_any (thn (he pins s σ H _ I h) fun v s1 ⟨x, H1, I1, r1, q1⟩ => ⟨σ, H1, I1, q1⟩) I.quiet hs
noncomputable def zy9 (te : TE) : TS := fun D σ H => te σ H D.rt
theorem zqQ (he : PE X e te) : PS X (.Return (some e) pos) (zy9 te) := by
  intro pins s σ H D I h
  exact wpAny_Return_some (thn (he pins s σ H _ I h) fun v s1 ⟨x, H1, I1, r1, q1⟩ => ⟨x, σ, H1, I1, r1, q1⟩)
noncomputable def zza (c : TT) (t u : TS) : TS := fun D σ H => c σ H fun b H1 => if b = true then t D σ H1 else u D σ H1
theorem ztI {c : Expr} {a b : List Stmt} {tc : TT} (hc : PT X c tc) (ha : PSs X a t) (hb : PSs X b u) : PS X (.If c a b pos) (zza tc t u) := by
  intro pins s σ H D I h
  refine wpAny_If (thn (hc pins s σ H _ I h) fun d s1 ⟨H1, I1, q1⟩ => ?_)
  cases d with
  | true => exact ha pins s1 σ H1 D I1 q1
  | false => exact hb pins s1 σ H1 D I1 q1
noncomputable def ztJ : TS := fun _ _ _ => False
theorem zpA : PS X st ztJ := fun _ _ _ _ _ _ h => h.elim
end
noncomputable abbrev TG := V → St → Hp → (St → Hp → Prop) → Prop
noncomputable def PG (X : Cx) (target : Expr) (t : TG) : Prop :=
  ∀ (pins : List (Addr × Obj)) (s : Shared) (σ : St) (H : Hp) (v : V) (u : Value) (Q : St → Hp → Prop), Inv X pins σ H s → RelV v u → t v σ H Q →
    wpAny (model X.prog X.w) X.A (assign target X.env u) (fun _ s' => ∃ σ' H', Inv X pins σ' H' s' ∧ Q σ' H') X.xe s
section
variable {X : Cx} {pos : Pos}
noncomputable def zrJ (i : Nat) : TG := fun v σ H Q => Q (σ.set i (some v)) H
theorem zki {i : Nat} {x : Str} (hN : X.N.Nodup) (hi : X.N[i]? = some x) (hx : Loc X.env.scope x) (hf : X.fn x = true ∨ X.env.scope.names.lookup x = some .local := by first | exact .inl rfl | exact .inr rfl | assumption) : PG X (.Name x pos) (zrJ i) := by
  intro pins s σ H v u Q I r h
  exact wpAny_assign_Name (zla I hN hi hx r (fun s' I' => ⟨_, H, I', h⟩) hf)
noncomputable def zzb (te : TE) (g : TG) : TS := fun D σ H => te σ H fun x H1 => g x σ H1 D.nx
theorem zqR {i : Nat} {x : Str} {e : Expr} {te : TE} {pos' : Pos} (hN : X.N.Nodup) (hi : X.N[i]? = some x) (hx : Loc X.env.scope x) (he : PE X e te) (hs : swapsWith e (some (.Name x pos')) pos.line X.env = pure false := by rfl) (hf : X.fn x = true ∨ X.env.scope.names.lookup x = some .local := by first | exact .inl rfl | exact .inr rfl | assumption) :
    PS X (.Assign [.Name x pos'] e pos) (zzb te (zrJ i)) := by
  intro pins s σ H D I h
  refine wpAny_Assign_Name (thn (he pins s σ H _ I h) fun v s1 ⟨y, H1, I1, r1, q1⟩ => ?_) hs
  exact zla I1 hN hi hx r1 (fun s2 I2 => ⟨_, H1, I2, q1⟩) hf
end
section
variable {X : Cx} {pos : Pos}
noncomputable def ztK (c : TT) (tb : TS) : TS := fun D σ H => ∃ W : Nat → St → Hp → Prop, (∃ m, W m σ H) ∧ ∀ m σ H, W m σ H →
  c σ H fun b H1 => if b = true then ∃ N : St → Hp → Prop, (∀ σ' H', N σ' H' → ∃ m', m' < m ∧ W m' σ' H') ∧ tb { D with nx := N, ct := N, bk := D.nx } σ H1 else D.nx σ H1
theorem zpB {c : Expr} {body : List Stmt} {tc : TT} {tb : TS} (hp : PassesOwn (model X.prog X.w) X.A X.env X.xe) (hc : PT X c tc) (hb : PSs X body tb) : PS X (.While c body [] pos) (ztK tc tb) := by
  intro pins s σ H D I h
  obtain ⟨W, ⟨m0, w0⟩, turn⟩ := h
  refine wpAny_While (codeAny_whileLoop (fun n s' => ∃ σ' H', Inv X pins σ' H' s' ∧ W n σ' H') ?_ m0 ⟨σ, H, I, w0⟩)
  rintro n s1 ⟨σ1, H1, I1, w1⟩
  refine wpAny_passesOwn hp (thn (hc pins s1 σ1 H1 _ I1 (turn n σ1 H1 w1)) fun b s2 ⟨H2, I2, q2⟩ => ?_)
  cases b with
  | true =>
    obtain ⟨N, hN, q2⟩ := q2
    rw [if_pos rfl]
    refine wpAny_passesOwn hp (thn (hb pins s2 σ1 H2 _ I2 q2) fun f s3 q3 => ?_)
    cases f with
    | next =>
      obtain ⟨σ3, H3, I3, n3⟩ := q3
      obtain ⟨m', hm, w3⟩ := hN σ3 H3 n3
      exact ⟨m', hm, σ3, H3, I3, w3⟩
    | cont =>
      obtain ⟨σ3, H3, I3, n3⟩ := q3
      obtain ⟨m', hm, w3⟩ := hN σ3 H3 n3
      exact ⟨m', hm, σ3, H3, I3, w3⟩
    | brk => exact q3
    | ret v => exact q3
  | false =>
    rw [if_neg Bool.false_ne_true]
    exact wpAny_execs_nil ⟨σ1, H2, I2, q2⟩
end
structure It where
  go : Nat → Hp → Prop
  yld : Nat → Hp → V → Hp → Prop
  stop : Nat → Hp → Prop
noncomputable def zm8 (X : Cx) (pins : List (Addr × Obj)) (H : Hp) (b : Addr) : Prop :=
  H b = none ∧ b ≠ X.env.locals ∧ b ∉ X.fs ∧ (b ∈ X.ex ∨ X.s₀.heap.objs.size ≤ b) ∧ (∀ x c, X.env.cells.lookup x = some c → c ≠ b) ∧ ∀ p ∈ X.pn ++ pins, p.1 ≠ b
theorem Inv.fpOk {X : Cx} {pins : List (Addr × Obj)} {σ : St} {H H' : Hp} {s : Shared} {b : Addr} (I : Inv X pins σ H s) (hb : s.heap.objs.size ≤ b) (hn : H' b = none) : zm8 X pins H' b := by
  refine ⟨hn, Nat.ne_of_gt (Nat.lt_of_lt_of_le I.lt hb), I.nofs hb, .inr (Nat.le_trans I.sz hb), fun x c e z => ?_, fun p hp z => ?_⟩
  · obtain ⟨v, q⟩ := I.cell x c e
    exact absurd (Nat.lt_of_lt_of_le q.lt (by rw [z]; exact hb)) (Nat.lt_irrefl _)
  · exact absurd (Nat.lt_of_lt_of_le (Heap.lt_size (I.pin p hp).1) (by rw [z]; exact hb)) (Nat.lt_irrefl _)
structure Turn (P : Program) (w : World) (K : PySem.W.Frag) (tg : Expr) (J : It) (fp : List Addr) (it : Addr) (tn : Nat → Heap → Prop) : Prop where
  mem : it ∈ fp
  obj : ∀ i h, tn i h → ∀ b ∈ fp, ∃ o, h.get? b = some o ∧ ∀ v, o.data ≠ .cell v
  keep : ∀ i h h', tn i h → (∀ b ∈ fp, ∀ o, h.get? b = some o → h'.get? b = some o) → tn i h'
  item : ∀ (X : Cx), X.prog = P → X.w = w → X.K = K → X.calm = true → ∀ (i : Nat) (pins : List (Addr × Obj)) (s : Shared) (σ : St) (H : Hp) (E : Value → Shared → Prop), Inv X pins σ H s → (∀ b ∈ fp, zm8 X pins H b) → tn i s.heap → J.go i H →
    wpAny (model P w) X.A (pyNext (.ref it)) (fun r s1 => ∃ u, r = some u ∧
      wpAny (model P w) X.A (letOwnedTupleGo tg (.ref it) u) (fun _ s2 => ∃ x H', Inv X pins σ H' s2 ∧ RelV x u ∧ J.yld i H x H' ∧ tn (i + 1) s2.heap ∧ ∀ b ∈ fp, H' b = none) E s1) E s
  done : ∀ (X : Cx), X.prog = P → X.w = w → X.K = K → X.calm = true → ∀ (i : Nat) (pins : List (Addr × Obj)) (s : Shared) (σ : St) (H : Hp) (E : Value → Shared → Prop), Inv X pins σ H s → (∀ b ∈ fp, zm8 X pins H b) → tn i s.heap → J.stop i H →
    wpAny (model P w) X.A (pyNext (.ref it)) (fun r s1 => r = none ∧ Inv X pins σ H s1) E s
  self : ∀ (A : Around) (i : Nat) (s : Shared) (Q : Value → Shared → Prop) (E : Value → Shared → Prop), tn i s.heap → Q (.ref it) s → wpAny (model P w) A (pyIter (.ref it)) Q E s
noncomputable abbrev TI := St → Hp → (It → Hp → Prop) → Prop
noncomputable def PIE (X : Cx) (pins : List (Addr × Obj)) (σ : St) (tg : Expr) (R : It → Hp → Prop) (itv : Value) (s2 : Shared) : Prop :=
  ∃ (it : Addr) (fp : List Addr) (tn : Nat → Heap → Prop) (J : It) (H' : Hp), itv = .ref it ∧ Inv X pins σ H' s2 ∧ Turn X.prog X.w X.K tg J fp it tn ∧ tn 0 s2.heap ∧ (∀ b ∈ fp, zm8 X pins H' b) ∧ R J H'
noncomputable def PI (X : Cx) (tg iter : Expr) (wi : TI) : Prop :=
  ∀ (pins : List (Addr × Obj)) (s : Shared) (σ : St) (H : Hp) (R : It → Hp → Prop), Inv X pins σ H s → wi σ H R →
    wpAny (model X.prog X.w) X.A (eval iter X.env) (fun v s1 => wpAny (model X.prog X.w) X.A (pyIter v) (PIE X pins σ tg R) X.xe s1) X.xe s
theorem zrK {M : Model} {A : Around} {E : Value → Shared → Prop} {s : Shared} {tg : Expr} {it : Addr} {u : Value} {o : Obj} {n : String} {vs : Array Value} {Q : Unit → Shared → Prop} (ho : s.heap.get? it = some o) (hc : o.cls = .type n) (hd : o.data = .fields vs)
    (hn : ["enumerate", "zip", "dict_itemiterator", "dict_reverseitemiterator", "odict_iterator", "itertools.zip_longest", "itertools.pairwise"].contains n = false) (hQ : Q () s) : wpAny M A (letOwnedTupleGo tg (.ref it) u) Q E s := by
  unfold letOwnedTupleGo
  cases tg <;> first
    | exact wpAny_pure hQ
    | (cases u <;> first
        | exact wpAny_pure hQ
        | (refine wpAny_bind (wpAny_load ho ?_)
           rw [hc, hd]
           show wpAny M A (if (["enumerate", "zip", "dict_itemiterator", "dict_reverseitemiterator", "odict_iterator", "itertools.zip_longest", "itertools.pairwise"].contains n && vs[0]? == some (rawInt _)) = true then _ else _) Q E s
           rw [if_neg (by intro h; rw [hn, Bool.false_and] at h; cases h)]
           exact wpAny_pure hQ))
noncomputable def Itl (K : PySem.W.Frag) (a : Addr) : It :=
  ⟨fun i H => ∃ xs x, SqL K H a xs ∧ xs[i]? = some x, fun i H x H' => H' = H ∧ ∀ xs, SqL K H a xs → xs[i]? = some x, fun i H => ∃ xs, SqL K H a xs ∧ xs.length ≤ i⟩
noncomputable def Itt (K : PySem.W.Frag) (a : Addr) : It :=
  ⟨fun i H => ∃ xs x, SqT K H a xs ∧ xs[i]? = some x, fun i H x H' => H' = H ∧ ∀ xs, SqT K H a xs → xs[i]? = some x, fun i H => ∃ xs, SqT K H a xs ∧ xs.length ≤ i⟩
noncomputable def Itr (lo : Int) (n : Nat) : It := ⟨fun i _ => i < n, fun i H x H' => H' = H ∧ x = .int (lo + i), fun i _ => n ≤ i⟩
theorem znf {P : Program} {w : World} {K : PySem.W.Frag} {tg : Expr} (a it : Addr) : Turn P w K tg (Itl K a) [it] it (fun i h => h.IsListIter it a i) where
  mem := by simp
  obj := fun i h st b hb => by
    have e : b = it := by simpa using hb
    subst e
    obtain ⟨o, e, c, d⟩ := st
    exact ⟨o, e, fun v z => by rw [d] at z; cases z⟩
  keep := fun i h h' st k => st.at fun o e => k it (by simp) o e
  item := by
    intro X hP hw hK hc i pins s σ H E I hf st hg
    subst hP hw hK
    obtain ⟨xs, x, hq, hx⟩ := hg
    obtain ⟨its, rv, p, hz⟩ := I.list hq
    obtain ⟨u, hu, ru⟩ := rv.get hx
    obtain ⟨f0, f1, f2, f3, f4, f5⟩ := hf it (by simp)
    refine wpAny_pyNext_list_item st p.isList (x := u) (by simpa using hu) fun h' st' sb => ?_
    have I1 : Inv X pins σ H { s with heap := h' } := I.turned (t' := s.toks) (fun b o hb e => (sb.2 b hb).trans e) f0 f1 f3 f4 f5
    obtain ⟨o, e, c, d⟩ := id st'
    exact ⟨u, rfl, zrK (s := { s with heap := h' }) e c d (by decide) ⟨x, H, I1, ru, ⟨rfl, fun ys hy => by rw [I.list_inj hy hq]; exact hx⟩, st', fun b hb => (hf b hb).1⟩⟩
  done := by
    intro X hP hw hK hc i pins s σ H E I hf st hg
    subst hP hw hK
    obtain ⟨xs, hq, hx⟩ := hg
    obtain ⟨its, rv, p, hz⟩ := I.list hq
    obtain ⟨f0, f1, f2, f3, f4, f5⟩ := hf it (by simp)
    have hl := rv.length
    exact wpAny_pyNext_list_end (I.ok.hd hc) st p.isList (by simp; omega) fun h' eb => ⟨rfl, I.turned (t' := s.toks) (fun b o hb e => eb b o hb e) f0 f1 f3 f4 f5⟩
  self := fun _ _ _ _ _ st h => wpAny_pyIter_listiter st h
theorem zmm {P : Program} {w : World} {K : PySem.W.Frag} {tg : Expr} (a it : Addr) : Turn P w K tg (Itt K a) [it] it (fun i h => h.IsTupleIter it a i) where
  mem := by simp
  obj := fun i h st b hb => by
    have e : b = it := by simpa using hb
    subst e
    obtain ⟨o, e, c, d⟩ := st
    exact ⟨o, e, fun v z => by rw [d] at z; cases z⟩
  keep := fun i h h' st k => st.at fun o e => k it (by simp) o e
  item := by
    intro X hP hw hK hc i pins s σ H E I hf st hg
    subst hP hw hK
    obtain ⟨xs, x, hq, hx⟩ := hg
    obtain ⟨its, rv, p, hz⟩ := I.tuple hq
    obtain ⟨u, hu, ru⟩ := rv.get hx
    obtain ⟨f0, f1, f2, f3, f4, f5⟩ := hf it (by simp)
    refine wpAny_pyNext_tuple_item st (show s.heap.IsTuple a its.toArray from p) (x := u) (by simpa using hu) fun h' st' sb => ?_
    have I1 : Inv X pins σ H { s with heap := h' } := I.turned (t' := s.toks) (fun b o hb e => (sb.2 b hb).trans e) f0 f1 f3 f4 f5
    obtain ⟨o, e, c, d⟩ := id st'
    exact ⟨u, rfl, zrK (s := { s with heap := h' }) e c d (by decide) ⟨x, H, I1, ru, ⟨rfl, fun ys hy => by rw [I.tuple_inj hy hq]; exact hx⟩, st', fun b hb => (hf b hb).1⟩⟩
  done := by
    intro X hP hw hK hc i pins s σ H E I hf st hg
    subst hP hw hK
    obtain ⟨xs, hq, hx⟩ := hg
    obtain ⟨its, rv, p, hz⟩ := I.tuple hq
    obtain ⟨f0, f1, f2, f3, f4, f5⟩ := hf it (by simp)
    have hl := rv.length
    exact wpAny_pyNext_tuple_end (I.ok.hd hc) st (show s.heap.IsTuple a its.toArray from p) (by simp; omega) fun h' eb => ⟨rfl, I.turned (t' := s.toks) (fun b o hb e => eb b o hb e) f0 f1 f3 f4 f5⟩
  self := fun _ _ _ _ _ st h => wpAny_pyIter_tupleiter st h
theorem zmn {P : Program} {w : World} {K : PySem.W.Frag} {tg : Expr} (it : Addr) (lo : Int) (n : Nat) : Turn P w K tg (Itr lo n) [it] it (fun i h => IsRangeIter h it (lo + (i : Nat) * 1) ((n : Int) - (i : Nat)) 1) where
  mem := by simp
  obj := fun i h st b hb => by
    have e : b = it := by simpa using hb
    subst e
    exact ⟨_, st, fun v z => by
      have z' : Data.fields _ = Data.cell v := z
      cases z'⟩
  keep := fun i h h' st k => k it (by simp) _ st
  item := by
    intro X hP hw hK hc i pins s σ H E I hf st hg
    subst hP hw hK
    obtain ⟨f0, f1, f2, f3, f4, f5⟩ := hf it (by simp)
    have W := Walks.range (prog := X.prog) (w := X.w) (I.ok.hd hc) it lo 1 n
    refine W.item i s _ _ hg st fun v h' tk hv st' kk => ?_
    obtain ⟨t, rfl⟩ := hv
    have I1 : Inv X pins σ H { s with heap := h', toks := tk } := I.turned (fun b o hb e => kk b o (by simpa using hb) e) f0 f1 f3 f4 f5
    refine ⟨_, rfl, zrK (s := { s with heap := h', toks := tk }) (n := "range_iterator") st' rfl rfl (by decide) ⟨.int (lo + i), H, I1, ⟨t, ?_⟩, ⟨rfl, rfl⟩, st', fun b hb => (hf b hb).1⟩⟩
    rw [Int.mul_one]
  done := by
    intro X hP hw hK hc i pins s σ H E I hf st hg
    subst hP hw hK
    obtain ⟨f0, f1, f2, f3, f4, f5⟩ := hf it (by simp)
    exact wpAny_pyNext_range_end (I.ok.hd hc) st (by have : n ≤ i := hg; omega) fun h' eb => ⟨rfl, I.turned (t' := s.toks) (fun b o hb e => eb b o hb e) f0 f1 f3 f4 f5⟩
  self := fun _ _ _ _ _ st h => wpAny_pyIter_rangeiter st h
end L2
namespace L2
open PySem PySem.Spec PyProof.Rows
section
variable {X : Cx} {tg : Expr}
theorem zlb {pins : List (Addr × Obj)} {σ : St} {H : Hp} {s : Shared} {R : It → Hp → Prop} {E : Value → Shared → Prop} {lo hi : Int} {t u v : Tok} {tk : Nat} (I : Inv X pins σ H s) (h1 : -(2 ^ 62) ≤ lo) (h2 : lo < 2 ^ 62) (h3 : -(2 ^ 62) ≤ hi) (h4 : hi < 2 ^ 62)
    (q : R (Itr lo (hi - lo).toNat) H) : wpAny (model X.prog X.w) X.A (pyIter (.ref s.heap.objs.size)) (PIE X pins σ tg R) E { s with heap := s.heap.push { cls := .type "range", data := .fields #[.int lo t, .int hi u, .int 1 v] }, toks := tk } := by
  refine wpAny_pyIter_range (IsRange.new ..) (small_one h1 h2 h3 h4) ?_
  have I1 : Inv X pins σ H { s with heap := s.heap.push { cls := .type "range", data := .fields #[.int lo t, .int hi u, .int 1 v] }, toks := tk } := I.kept fun b o e => Heap.get?_push_of_some _ e
  refine ⟨(s.heap.push { cls := .type "range", data := .fields #[.int lo t, .int hi u, .int 1 v] }).objs.size, [(s.heap.push { cls := .type "range", data := .fields #[.int lo t, .int hi u, .int 1 v] }).objs.size], _, _, H, rfl,
    I1.kept (t' := tk) fun b o e => Heap.get?_push_of_some _ e, zmn _ lo (hi - lo).toNat, ?_, fun b hb => ?_, q⟩
  · have e1 : lo + ((0 : Nat) : Int) * 1 = lo := by simp
    have e2 : (((hi - lo).toNat : Nat) : Int) - ((0 : Nat) : Int) = Builtin.Range.rangeSize lo hi 1 := by rw [rangeSize_one]; split <;> omega
    show IsRangeIter _ _ (lo + ((0 : Nat) : Int) * 1) ((((hi - lo).toNat : Nat) : Int) - ((0 : Nat) : Int)) 1
    rw [e1, e2]
    exact Heap.get?_push_size _ rfl
  · have e : b = (s.heap.push { cls := .type "range", data := .fields #[.int lo t, .int hi u, .int 1 v] }).objs.size := by simpa using hb
    subst e
    exact I1.fpOk (Nat.le_refl _) (I1.hok.fresh (Nat.le_refl _))
noncomputable def zxc (ta : TA) : TI := fun σ H R => ta σ H fun vs H1 => ∃ j : Int, vs = [.int j] ∧ -(2 ^ 62) ≤ j ∧ j < 2 ^ 62 ∧ R (Itr 0 j.toNat) H1
noncomputable def zxd (ta : TA) : TI := fun σ H R => ta σ H fun vs H1 => ∃ i j : Int, vs = [.int i, .int j] ∧ (-(2 ^ 62) ≤ i ∧ i < 2 ^ 62 ∧ -(2 ^ 62) ≤ j ∧ j < 2 ^ 62) ∧ R (Itr i (j - i).toNat) H1
theorem zng {a : Expr} {ta : TA} {p pos : Pos} (hg : Gl X "range") (hm : X.mg "range" = none) (ha : PA X [a] ta) (hs : starEach [a] X.env = [(false, eval a X.env)] := by rfl) : PI X tg (.Call (.Name "range" p) [a] [] pos) (zxc ta) := by
  intro pins s σ H R I h
  refine Call_ (ziG I hg hm boot_range (PyProof.Rows.callWith_type1 (thn (ha pos pins s σ H _ I h) fun us s1 ⟨vs, H1, I1, r1, q1⟩ => ?_) hs rfl))
  obtain ⟨j, e, q1, q2, q⟩ := q1
  subst e
  cases r1 with
  | cons r rr =>
    cases rr
    obtain ⟨t, rfl⟩ := r
    exact call_range_1 (zlb I1 (by omega) (by omega) q1 q2 (by simpa using q))
theorem znh {a b : Expr} {ta : TA} {p pos : Pos} (hg : Gl X "range") (hm : X.mg "range" = none) (ha : PA X [a, b] ta) (hs : starEach [a, b] X.env = [(false, eval a X.env), (false, eval b X.env)] := by rfl) (hs2 : starEach [b] X.env = [(false, eval b X.env)] := by rfl) :
    PI X tg (.Call (.Name "range" p) [a, b] [] pos) (zxd ta) := by
  intro pins s σ H R I h
  refine Call_ (ziG I hg hm boot_range (PyProof.Rows.callWith_type1 (thn (ha pos pins s σ H _ I h) fun us s1 ⟨vs, H1, I1, r1, q1⟩ => ?_) (by rw [hs, hs2]) (by rw [hs2]; rfl)))
  obtain ⟨i, j, e, ⟨q1, q2, q3, q4⟩, q⟩ := q1
  subst e
  cases r1 with
  | cons r rr =>
    cases rr with
    | cons r' rr =>
      cases rr
      obtain ⟨t, rfl⟩ := r
      obtain ⟨t', rfl⟩ := r'
      exact call_range_2 (zlb I1 q1 q2 q3 q4 q)
noncomputable def zzc (wi : TI) (g : TG) (tb : TS) : TS := fun D σ H => wi σ H fun J H1 => ∃ W : Nat → Nat → St → Hp → Prop, (∃ m, W 0 m σ H1) ∧ ∀ i m σ H, W i m σ H →
  (J.stop i H ∧ D.nx σ H) ∨ (J.go i H ∧ ∃ N : St → Hp → Prop, (∀ σ' H', N σ' H' → ∃ m', m' < m ∧ W (i + 1) m' σ' H') ∧ ∀ x H', J.yld i H x H' → g x σ H' fun σ2 H2 => tb { D with nx := N, ct := N, bk := D.nx } σ2 H2)
noncomputable def ziH (fp : List Addr) (h : Heap) : List (Addr × Obj) := fp.filterMap fun b => (h.get? b).map fun o => (b, o)
theorem zdt {fp : List Addr} {h : Heap} {b : Addr} {o : Obj} (hb : b ∈ fp) (e : h.get? b = some o) : (b, o) ∈ ziH fp h := List.mem_filterMap.mpr ⟨b, hb, by rw [e]; rfl⟩
theorem zni {fp : List Addr} {h : Heap} {p : Addr × Obj} (hp : p ∈ ziH fp h) : p.1 ∈ fp ∧ h.get? p.1 = some p.2 := by
  obtain ⟨b, hb, e⟩ := List.mem_filterMap.mp hp
  cases q : h.get? b with
  | none => rw [q] at e; cases e
  | some o =>
    rw [q] at e
    have e' : (b, o) = p := Option.some.inj e
    subst e'
    exact ⟨hb, q⟩
theorem Inv.pinned {pins : List (Addr × Obj)} {σ : St} {H : Hp} {s : Shared} {fp : List Addr} (I : Inv X pins σ H s) (hf : ∀ b ∈ fp, zm8 X pins H b) (ho : ∀ b ∈ fp, ∃ o, s.heap.get? b = some o ∧ ∀ v, o.data ≠ .cell v) : Inv X (pins ++ ziH fp s.heap) σ H s :=
  I.pins_of fun p hp => (List.mem_append.mp hp).elim (fun z => I.pin p (List.mem_append_right _ z)) fun z => by
    obtain ⟨hb, e⟩ := zni z
    obtain ⟨f0, f1, f2, _⟩ := hf p.1 hb
    obtain ⟨o, e', d⟩ := ho p.1 hb
    rw [e] at e'; cases e'
    exact ⟨e, f0, f1, f2, d⟩
theorem Inv.unpinned {pins pl : List (Addr × Obj)} {σ : St} {H : Hp} {s : Shared} (I : Inv X (pins ++ pl) σ H s) : Inv X pins σ H s := I.pins_of fun p hp => I.pin p (List.mem_append_right _ (List.mem_append_left _ hp))
theorem zqS {iter : Expr} {body : List Stmt} {wi : TI} {g : TG} {tb : TS} {pos : Pos} (hp : PassesOwn (model X.prog X.w) X.A X.env X.xe) (hc : X.calm = true) (hi : PI X tg iter wi) (hg : PG X tg g) (hb : PSs X body tb)
    (hs : ∀ x, foldedSetIterable iter X.env x = pure x := by intro _; rfl) : PS X (.For tg iter body [] pos) (zzc wi g tb) := by
  intro pins s σ H D I h
  refine wpAny_For (thn (hi pins s σ H _ I h) fun v s1 h1 => thn h1 fun itv s2 h2 => ?_) hs
  obtain ⟨it, fp, tn, J, H2, e, I2, T, st2, f2, W, ⟨m0, w0⟩, turn⟩ := h2
  subst e
  have stat : ∀ {H' : Hp}, (∀ b ∈ fp, H' b = none) → ∀ b ∈ fp, zm8 X pins H' b := fun hn b hb => ⟨hn b hb, (f2 b hb).2⟩
  refine codeAny_forLoop_any (fun n s' => ∃ i σ' H', Inv X pins σ' H' s' ∧ tn i s'.heap ∧ (∀ b ∈ fp, H' b = none) ∧ W i n σ' H') ?_ m0 ⟨0, σ, H2, I2, st2, fun b hb => (f2 b hb).1, w0⟩
  rintro n s3 ⟨i, σ3, H3, I3, st3, fr3, w3⟩
  rcases turn i n σ3 H3 w3 with ⟨stop, qn⟩ | ⟨go, N, hN, step⟩
  · refine wpAny_passesOwn hp (thn (T.done X rfl rfl rfl hc i pins s3 σ3 H3 X.xe I3 (stat fr3) st3 stop) fun r s4 ⟨hr, I4⟩ => ?_)
    subst hr
    exact wpAny_execs_nil ⟨σ3, H3, I4, qn⟩
  · refine wpAny_passesOwn hp (thn (T.item X rfl rfl rfl hc i pins s3 σ3 H3 X.xe I3 (stat fr3) st3 go) fun r s4 ⟨u, hr, h4⟩ => ?_)
    subst hr
    refine wpAny_passesOwn hp (thn h4 fun _ s5 ⟨x, H5, I5, r5, y5, st5, fr5⟩ => ?_)
    have I5' := I5.pinned (stat fr5) (T.obj _ _ st5)
    refine wpAny_passesOwn hp (thn (hg _ s5 σ3 H5 x u _ I5' r5 (step x H5 y5)) fun _ s6 ⟨σ6, H6, I6, q6⟩ => ?_)
    refine wpAny_passesOwn hp (thn (hb _ s6 σ6 H6 _ I6 q6) fun f s7 q7 => ?_)
    have again : ∀ {σ7 : St} {H7 : Hp}, Inv X (pins ++ ziH fp s5.heap) σ7 H7 s7 → N σ7 H7 → ∃ m, m < n ∧ ∃ i σ' H', Inv X pins σ' H' s7 ∧ tn i s7.heap ∧ (∀ b ∈ fp, H' b = none) ∧ W i m σ' H' := fun {σ7 H7} I7 n7 => by
      obtain ⟨m', hm, w7⟩ := hN σ7 H7 n7
      refine ⟨m', hm, i + 1, σ7, H7, I7.unpinned, T.keep _ _ _ st5 fun b hb o e => (I7.pin (b, o) (List.mem_append_right _ (List.mem_append_right _ (zdt hb e)))).1, fun b hb => ?_, w7⟩
      obtain ⟨o, e, d⟩ := T.obj _ _ st5 b hb
      exact (I7.pin (b, o) (List.mem_append_right _ (List.mem_append_right _ (zdt hb e)))).2.1
    cases f with
    | next => obtain ⟨σ7, H7, I7, n7⟩ := q7; exact again I7 n7
    | cont => obtain ⟨σ7, H7, I7, n7⟩ := q7; exact again I7 n7
    | brk => obtain ⟨σ7, H7, I7, q7⟩ := q7; exact ⟨σ7, H7, I7.unpinned, q7⟩
    | ret v => obtain ⟨x7, σ7, H7, I7, r7, q7⟩ := q7; exact ⟨x7, σ7, H7, I7.unpinned, r7, q7⟩
end
end L2
namespace L2
open PySem PySem.Spec PyProof.Rows
noncomputable abbrev R2 := V → V → Hp → VK → Prop
noncomputable def OpR (X : Cx) (f : Value → Value → Sem Value) (r : R2) : Prop :=
  ∀ (pins : List (Addr × Obj)) (s : Shared) (σ : St) (H : Hp) (x y : V) (v u : Value) (Q : VK), Inv X pins σ H s → RelV x v → RelV y u → r x y H Q →
    wpAny (model X.prog X.w) X.A (f v u) (EP X pins σ Q) X.xe s
noncomputable def zcz (X : Cx) (f : Value) (r : List V → Hp → VK → Prop) : Prop :=
  ∀ (pins : List (Addr × Obj)) (s : Shared) (σ : St) (H : Hp) (xs : List V) (us : List Value) (Q : VK), Inv X pins σ H s → Vals xs us → r xs H Q →
    wpAny (model X.prog X.w) X.A (call f us) (EP X pins σ Q) X.xe s
noncomputable def zzd (X : Cx) (r : V → Hp → (Bool → Hp → Prop) → Prop) : Prop :=
  ∀ (pins : List (Addr × Obj)) (s : Shared) (σ : St) (H : Hp) (x : V) (v : Value) (Q : Bool → Hp → Prop), Inv X pins σ H s → RelV x v → r x H Q →
    wpAny (model X.prog X.w) X.A (truthy v) (TP X pins σ Q) X.xe s
noncomputable def tOp (r : R2) (ta tb : TE) : TE := fun σ H Q => ta σ H fun x H1 => tb σ H1 fun y H2 => r x y H2 Q
noncomputable def rI (C : Int → Int → Prop) (g : Int → Int → V) : R2 := fun x y H Q => ∃ i j, x = .int i ∧ y = .int j ∧ C i j ∧ Q (g i j) H
noncomputable def rI0 (g : Int → Int → V) : R2 := fun x y H Q => ∃ i j, x = .int i ∧ y = .int j ∧ Q (g i j) H
section
variable {X : Cx} {a b c : Expr} {ta tb tc : TE} {pos : Pos}
theorem zxe (ha : PE X a ta) (hb : PE X b tb) {pins : List (Addr × Obj)} {s : Shared} {σ : St} {H : Hp} {R : V → V → Hp → Prop} (I : Inv X pins σ H s)
    (h : ta σ H fun x H1 => tb σ H1 fun y H2 => R x y H2) {Q : Value → Shared → Prop} {f : Value → Value → Sem Value}
    (hf : ∀ v u s2 x y H2, Inv X pins σ H2 s2 → RelV x v → RelV y u → R x y H2 → wpAny (model X.prog X.w) X.A (f v u) Q X.xe s2) :
    wpAny (model X.prog X.w) X.A (eval a X.env) (fun v s₁ => wpAny (model X.prog X.w) X.A (eval b X.env) (fun u s₂ => wpAny (model X.prog X.w) X.A (f v u) Q X.xe s₂) X.xe s₁) X.xe s := by
  refine thn (ha pins s σ H _ I h) fun v s1 ⟨x, H1, I1, r1, q1⟩ => ?_
  refine thn (hb pins s1 σ H1 _ I1 q1) fun u s2 ⟨y, H2, I2, r2, q2⟩ => ?_
  exact hf v u s2 x y H2 I2 r1 r2 q2
theorem zxf {op : Operator} {r : R2} (ho : OpR X (binaryOp op) r) (ha : PE X a ta) (hb : PE X b tb) : PE X (.BinOp a op b pos) (tOp r ta tb) := by
  intro pins s σ H Q I h
  exact wpAny_BinOp (zxe ha hb I h fun v u s2 x y H2 I2 rx ry q => ho pins s2 σ H2 x y v u Q I2 rx ry q)
theorem opI {f : Value → Value → Sem Value} {C : Int → Int → Prop} {g : Int → Int → Int}
    (rule : ∀ (i j : Int) (t u : Tok) (s : Shared) (Q : Value → Shared → Prop) (E : Value → Shared → Prop), C i j → Q (.int (g i j) s.toks) { s with toks := s.toks + 1 } → wpAny (model X.prog X.w) X.A (f (.int i t) (.int j u)) Q E s) :
    OpR X f (rI C fun i j => .int (g i j)) := by
  intro pins s σ H x y v u Q I rx ry h
  obtain ⟨i, j, rfl, rfl, hc, q⟩ := h
  obtain ⟨t, rfl⟩ := rx
  obtain ⟨t', rfl⟩ := ry
  exact rule i j t t' s _ _ hc ⟨.int (g i j), H, I.tok _, ⟨_, rfl⟩, q⟩
theorem zyA {f : Value → Value → Sem Value} {g : Int → Int → Int}
    (rule : ∀ (i j : Int) (t u : Tok) (s : Shared) (Q : Value → Shared → Prop) (E : Value → Shared → Prop), Q (.int (g i j) s.toks) { s with toks := s.toks + 1 } → wpAny (model X.prog X.w) X.A (f (.int i t) (.int j u)) Q E s) :
    OpR X f (rI0 fun i j => .int (g i j)) := by
  intro pins s σ H x y v u Q I rx ry h
  obtain ⟨i, j, rfl, rfl, q⟩ := h
  obtain ⟨t, rfl⟩ := rx
  obtain ⟨t', rfl⟩ := ry
  exact rule i j t t' s _ _ ⟨.int (g i j), H, I.tok _, ⟨_, rfl⟩, q⟩
theorem zxg {f : Value → Value → Sem Value} {g : Int → Int → Bool}
    (rule : ∀ (i j : Int) (t u : Tok) (s : Shared) (Q : Value → Shared → Prop) (E : Value → Shared → Prop), Q (.bool (g i j)) s → wpAny (model X.prog X.w) X.A (f (.int i t) (.int j u)) Q E s) :
    OpR X f (rI0 fun i j => .bl (g i j)) := by
  intro pins s σ H x y v u Q I rx ry h
  obtain ⟨i, j, rfl, rfl, q⟩ := h
  obtain ⟨t, rfl⟩ := rx
  obtain ⟨t', rfl⟩ := ry
  exact rule i j t t' s _ _ ⟨.bl (g i j), H, I, rfl, q⟩
noncomputable def zze (i j : Int) : Prop := 0 < j ∧ j < 1073741824
noncomputable def CMul (i j : Int) : Prop := (-(2 ^ 64) < i ∧ i < 2 ^ 64) ∨ (-(2 ^ 64) < j ∧ j < 2 ^ 64)
theorem CMul.ok {i j : Int} (h : CMul i j) : IntMulOk i j := by
  rcases h with ⟨h1, h2⟩ | ⟨h1, h2⟩
  · exact .of_left (intBits_le_64 h1 h2)
  · exact .of_right (intBits_le_64 h1 h2)
theorem ztL : OpR X (binaryOp .Add) (rI0 fun i j => .int (i + j)) := zyA fun _ _ _ _ _ _ _ q => add_int q
theorem ztM : OpR X (binaryOp .Sub) (rI0 fun i j => .int (i - j)) := zyA fun _ _ _ _ _ _ _ q => sub_int q
theorem ztN : OpR X (binaryOp .Mult) (rI CMul fun i j => .int (i * j)) := opI fun _ _ _ _ _ _ _ hc q => mul_int q hc.ok
theorem zrL : OpR X (binaryOp .FloorDiv) (rI zze fun i j => .int (i / j)) := opI fun i j _ _ _ _ _ hc q => by
  have h1 : (0 : Int) < j := hc.1
  have h2 : j < 1073741824 := hc.2
  exact floordiv_int (by omega) (by rw [Int.fdiv_eq_ediv_of_nonneg i (by omega)]; exact q) (.inl (PyProof.noPylong_small (by omega)))
theorem ztO : OpR X (binaryOp .Mod) (rI (fun _ j => 0 < j) fun i j => .int (i % j)) := opI fun i j _ _ _ _ _ hc q => by
  have h1 : (0 : Int) < j := hc
  exact mod_int' (by omega) (by rw [Int.fmod_eq_emod_of_nonneg i (by omega)]; exact q)
end
noncomputable def zzf : V → V → Bool
  | .non, .non => true | .non, .int _ => true | .int _, .non => true | .non, .bl _ => true | .bl _, .non => true | .non, .str _ => true | .str _, .non => true
  | .int _, .int _ => true | .bl _, .bl _ => true | .str _, .str _ => true | .byt _, .byt _ => true
  | .int _, .str _ => true | .str _, .int _ => true | .bl _, .str _ => true | .str _, .bl _ => true
  | _, _ => false
noncomputable def rEq : R2 := fun x y H Q => zzf x y = true ∧ Q (.bl (decide (x = y))) H
theorem zrM {i j : Int} : decide (V.int i = V.int j) = (i == j) := by
  rw [Bool.eq_iff_iff]
  simp
theorem ztP {i j : Bool} : decide (V.bl i = V.bl j) = (i == j) := by
  rw [Bool.eq_iff_iff]
  simp
theorem zrN {i j : Str} : decide (V.str i = V.str j) = (i == j) := by
  rw [Bool.eq_iff_iff]
  simp
theorem zrO {i j : Array UInt8} : decide (V.byt i = V.byt j) = (i.toList == j.toList) := by
  rw [Bool.eq_iff_iff]
  cases i
  cases j
  simp
section
variable {X : Cx} {a b c : Expr} {ta tb tc : TE} {pos : Pos}
theorem zcg {pins : List (Addr × Obj)} {σ : St} {H : Hp} {s : Shared} {Q : VK} {k k' : Bool} (I : Inv X pins σ H s) (q : Q (.bl k) H) (e : k = k') : EP X pins σ Q (.bool k') s := by
  subst e
  exact ⟨.bl k, H, I, rfl, q⟩
theorem zxh : OpR X (compareOp .Eq) rEq := by
  intro pins s σ H x y v u Q I rx ry h
  obtain ⟨hs, q⟩ := h
  cases x with
  | non =>
    cases rx
    cases y with
    | non => cases ry; exact PySem.EqNone.eq_none_none (zcg I q (by simp))
    | bl j => cases ry; exact PySem.EqNone.eq_none_bool (zcg I q (by simp))
    | int j => obtain ⟨t', rfl⟩ := ry; exact PySem.EqNone.eq_none_int (zcg I q (by simp))
    | str j => obtain ⟨t', rfl⟩ := ry; exact PySem.EqNone.eq_none_str (zcg I q (by simp))
    | _ => exact absurd (show false = true from hs) Bool.false_ne_true
  | bl i =>
    cases rx
    cases y with
    | non => cases ry; exact PySem.EqNone.eq_bool_none (zcg I q (by simp))
    | bl j => cases ry; exact eq_bool (zcg I q ztP)
    | str j => obtain ⟨t', rfl⟩ := ry; exact PySem.EqMixed.eq_bool_str (zcg I q (by simp))
    | _ => exact absurd (show false = true from hs) Bool.false_ne_true
  | int i =>
    obtain ⟨t, rfl⟩ := rx
    cases y with
    | non => cases ry; exact PySem.EqNone.eq_int_none (zcg I q (by simp))
    | int j => obtain ⟨t', rfl⟩ := ry; exact eq_int (zcg I q zrM)
    | str j => obtain ⟨t', rfl⟩ := ry; exact PySem.EqMixed.eq_int_str (zcg I q (by simp))
    | _ => exact absurd (show false = true from hs) Bool.false_ne_true
  | str i =>
    obtain ⟨t, rfl⟩ := rx
    cases y with
    | non => cases ry; exact PySem.EqNone.eq_str_none (zcg I q (by simp))
    | bl j => cases ry; exact PySem.EqMixed.eq_str_bool (zcg I q (by simp))
    | int j => obtain ⟨t', rfl⟩ := ry; exact PySem.EqMixed.eq_str_int (zcg I q (by simp))
    | str j => obtain ⟨t', rfl⟩ := ry; exact eq_str (zcg I q zrN)
    | _ => exact absurd (show false = true from hs) Bool.false_ne_true
  | byt i =>
    obtain ⟨t, rfl⟩ := rx
    cases y with
    | byt j => obtain ⟨t', rfl⟩ := ry; exact PySem.W.eq_bytes (zcg I q zrO)
    | _ => exact absurd (show false = true from hs) Bool.false_ne_true
  | _ => cases y <;> exact absurd (show false = true from hs) Bool.false_ne_true
theorem zxi : OpR X (compareOp .Lt) (rI0 fun i j => .bl (decide (i < j))) := zxg fun _ _ _ _ _ _ _ q => lt_int q
theorem zxj : OpR X (compareOp .LtE) (rI0 fun i j => .bl (decide (i ≤ j))) := zxg fun _ _ _ _ _ _ _ q => le_int q
theorem zxk : OpR X (compareOp .Gt) (rI0 fun i j => .bl (decide (j < i))) := zxg fun _ _ _ _ _ _ _ q => gt_int q
theorem zbn (b : Expr) {op : CmpOp} (h : op ≠ .In := by decide) (h2 : op ≠ .NotIn := by decide) : behindInMarks op b = false := by
  have e1 : (op == CmpOp.In) = false := by cases op <;> first | rfl | exact absurd rfl h
  have e2 : (op == CmpOp.NotIn) = false := by cases op <;> first | rfl | exact absurd rfl h2
  cases b <;> simp [behindInMarks, e1, e2]
theorem zrP {op : CmpOp} {r : R2} (ho : OpR X (compareOp op) r) (ha : PE X a ta) (hb : PE X b tb) (hm : behindInMarks op b = false) : PE X (.Compare a [op] [b] pos) (tOp r ta tb) := by
  intro pins s σ H Q I h
  exact wpAny_Compare1 (zxe ha hb I h fun v u s2 x y H2 I2 rx ry q => ho pins s2 σ H2 x y v u Q I2 rx ry q) hm
noncomputable def ztQ (t : TE) : TT := fun σ H Q => t σ H fun x H' => ∃ k, x = .bl k ∧ Q k H'
theorem zrQ {op : CmpOp} {r : R2} (ho : OpR X (compareOp op) r) (ha : PE X a ta) (hb : PE X b tb) (hm : behindInMarks op b = false) : PT X (.Compare a [op] [b] pos) (ztQ (tOp r ta tb)) := by
  intro pins s σ H Q I h
  refine wpAny_isTrue_Compare1 (thn (ha pins s σ H _ I h) fun v s1 ⟨x, H1, I1, r1, q1⟩ => thn (hb pins s1 σ H1 _ I1 q1) fun u s2 ⟨y, H2, I2, r2, q2⟩ =>
    thn (ho pins s2 σ H2 x y v u _ I2 r1 r2 q2) fun c s3 ⟨z, H3, I3, r3, k, e, q3⟩ => ?_) hm
  subst e
  cases r3
  exact wpAny_truthy_bool ⟨H3, I3, q3⟩
noncomputable def zqT (r r' : R2) (ta tb tc : TE) : TE := fun σ H Q => ta σ H fun x H1 => tb σ H1 fun y H2 => r x y H2 fun z H3 => ∃ k, z = .bl k ∧
  (if k = true then tc σ H3 fun w' H4 => r' y w' H4 Q else Q (.bl false) H3)
theorem zpC {op op' : CmpOp} {r r' : R2} (ho : OpR X (compareOp op) r) (ho' : OpR X (compareOp op') r') (ha : PE X a ta) (hb : PE X b tb) (hc : PE X c tc)
    (hm : lastMarks [op, op'] [b, c] = false := by with_unfolding_all rfl) : PE X (.Compare a [op, op'] [b, c] pos) (zqT r r' ta tb tc) := by
  intro pins s σ H Q I h
  refine Compare_chain (thn (ha pins s σ H _ I h) fun v s1 ⟨x, H1, I1, r1, q1⟩ => chain_link (thn (hb pins s1 σ H1 _ I1 q1) fun u s2 ⟨y, H2, I2, r2, q2⟩ =>
    thn (ho pins s2 σ H2 x y v u _ I2 r1 r2 q2) fun d s3 ⟨z, H3, I3, r3, k, e, q3⟩ => ?_)) hm
  subst e
  cases r3
  refine wpAny_truthy_bool ?_
  cases k with
  | false => exact ite_ff ⟨.bl false, H3, I3, rfl, q3⟩
  | true => exact ite_tt (chain_last (thn (hc pins s3 σ H3 _ I3 q3) fun w' s4 ⟨z', H4, I4, r4, q4⟩ => ho' pins s4 σ H4 y z' u w' Q I4 r2 r4 q4))
theorem zpD {op op' : CmpOp} {r r' : R2} (ho : OpR X (compareOp op) r) (ho' : OpR X (compareOp op') r') (ha : PE X a ta) (hb : PE X b tb) (hc : PE X c tc)
    (hm : lastMarks [op, op'] [b, c] = false := by with_unfolding_all rfl) : PT X (.Compare a [op, op'] [b, c] pos) (ztQ (zqT r r' ta tb tc)) := by
  intro pins s σ H Q I h
  refine isTrue_chain (thn (ha pins s σ H _ I h) fun v s1 ⟨x, H1, I1, r1, q1⟩ => test_link (thn (hb pins s1 σ H1 _ I1 q1) fun u s2 ⟨y, H2, I2, r2, q2⟩ =>
    thn (ho pins s2 σ H2 x y v u _ I2 r1 r2 q2) fun d s3 ⟨z, H3, I3, r3, k, e, q3⟩ => ?_)) hm
  subst e
  cases r3
  refine wpAny_truthy_bool ?_
  cases k with
  | false =>
    obtain ⟨k', e', q'⟩ := q3
    cases e'
    exact ite_ff ⟨H3, I3, q'⟩
  | true =>
    refine ite_tt (test_last (thn (hc pins s3 σ H3 _ I3 q3) fun w' s4 ⟨z', H4, I4, r4, q4⟩ => thn (ho' pins s4 σ H4 y z' u w' _ I4 r2 r4 q4) fun d' s5 ⟨z2, H5, I5, r5, k2, e2, q5⟩ => ?_))
    subst e2
    cases r5
    exact wpAny_truthy_bool ⟨H5, I5, q5⟩
noncomputable def zxl (K : PySem.W.Frag) (x : V) (H : Hp) (k : Bool) : Prop :=
  match x with
  | .non => k = false
  | .bl b => k = b
  | .int i => k = (i != 0)
  | .str y => y.length ≤ sizeLine ∧ k = ((y.length : Int) != 0)
  | .byt y => y.size ≤ sizeLine ∧ k = ((y.size : Int) != 0)
  | .ref p => (∃ xs, SqL K H p xs ∧ k = !xs.isEmpty) ∨ (∃ xs, SqT K H p xs ∧ k = !xs.isEmpty) ∨ ∃ kvs, H p = some (.dK kvs) ∧ k = !kvs.isEmpty
  | _ => False
theorem zmo {κ : Type} {kvs : List (κ × V)} {vs : List (κ × Value)} (r : KV kvs vs) : (!vs.isEmpty) = !kvs.isEmpty := by
  cases r <;> rfl
theorem zgW {xs : List V} {its : List Value} (r : Vals xs its) : (!its.toArray.isEmpty) = !xs.isEmpty := by
  cases r <;> simp
theorem zlc : (sizeLine : Nat) < 2 ^ 63 := by rw [sizeLine_eq]; decide
theorem ztR : zzd X (fun x H Q => ∃ k, zxl X.K x H k ∧ Q k H) := by
  intro pins s σ H x v Q I rx h
  obtain ⟨k, e, q⟩ := h
  have hl := zlc
  have hs : sizeLine = 16777216 := sizeLine_eq
  cases x with
  | non =>
    cases rx
    have e' : k = false := e
    subst e'
    exact truthy_none ⟨H, I, q⟩
  | bl b =>
    cases rx
    have e' : k = b := e
    subst e'
    exact wpAny_truthy_bool ⟨H, I, q⟩
  | int i =>
    obtain ⟨t, rfl⟩ := rx
    have e' : k = (i != 0) := e
    subst e'
    exact PySem.P.truthy_int ⟨H, I, q⟩
  | str y =>
    obtain ⟨t, rfl⟩ := rx
    obtain ⟨hy, e'⟩ : y.length ≤ sizeLine ∧ k = ((y.length : Int) != 0) := e
    subst e'
    exact PySem.P.truthy_str (by omega) ⟨H, I.tok _, q⟩
  | byt y =>
    obtain ⟨t, rfl⟩ := rx
    obtain ⟨hy, e'⟩ : y.size ≤ sizeLine ∧ k = ((y.size : Int) != 0) := e
    subst e'
    exact PySem.W.truthy_bytes (by omega) ⟨H, I.tok _, q⟩
  | ref p =>
    cases rx
    have e' : (∃ xs, SqL X.K H p xs ∧ k = !xs.isEmpty) ∨ (∃ xs, SqT X.K H p xs ∧ k = !xs.isEmpty) ∨ ∃ kvs, H p = some (.dK kvs) ∧ k = !kvs.isEmpty := e
    rcases e' with ⟨xs, hx, e'⟩ | ⟨xs, hx, e'⟩ | ⟨kvs, hx, e'⟩
    · subst e'
      obtain ⟨its, r, pl, hz⟩ := I.list hx
      have hlen := r.length
      exact wpAny_truthy_list pl.isList (by simp only [List.size_toArray]; omega) ⟨H, I.tok _, by rw [zgW r]; exact q⟩
    · subst e'
      obtain ⟨its, r, pl, hz⟩ := I.tuple hx
      have hlen := r.length
      exact truthy_tuple pl (by simp only [List.size_toArray]; omega) ⟨H, I.tok _, by rw [zgW r]; exact q⟩
    · subst e'
      obtain ⟨hz, hS, vs, r, m⟩ : kvs.length ≤ sizeLine ∧ (p == sysModules) = false ∧ ∃ vs, KV kvs vs ∧ s.heap.DictOf (zay X.prog X.w) p vs := I.hok p _ hx
      have hlen : kvs.length = vs.length := Paired.length r
      exact wpAny_truthy_dict hS m (by omega) ⟨H, I.tok _, by rw [zmo r]; exact q⟩
  | _ => exact (show False from e).elim
theorem zld (ha : PE X a ta) (he : ∀ whole, isTrue a X.env whole = (do let v ← whole; standAt a.pos; holding [v] (truthy v))) :
    PT X a (fun σ H Q => ta σ H fun x H' => ∃ k, zxl X.K x H' k ∧ Q k H') := by
  intro pins s σ H Q I h
  exact isTrue_plain (thn (ha pins s σ H _ I h) fun v s1 ⟨x, H1, I1, r1, q1⟩ => ztR pins s1 σ H1 x v Q I1 r1 q1) (he _)
theorem zfI {x : V} {us : List Value} (r : Vals [x] us) : ∃ u, us = [u] ∧ RelV x u := by
  cases r with
  | cons r1 r2 => cases r2; exact ⟨_, rfl, r1⟩
theorem zrR {x y : V} {us : List Value} (r : Vals [x, y] us) : ∃ u w', us = [u, w'] ∧ RelV x u ∧ RelV y w' := by
  cases r with
  | cons r1 r2 =>
    cases r2 with
    | cons r3 r4 => cases r4; exact ⟨_, _, rfl, r1, r3⟩
theorem zpE : zcz X (.builtin "abs") (fun xs H Q => ∃ i, xs = [.int i] ∧ Q (.int (if i < 0 then -i else i)) H) := by
  intro pins s σ H xs us Q I r h
  obtain ⟨i, rfl, q⟩ := h
  obtain ⟨u, rfl, t, rfl⟩ := zfI r
  exact call_abs_int fun u tk => ⟨.int (if i < 0 then -i else i), H, I.tok _, ⟨_, rfl⟩, q⟩
theorem znj (hc : X.calm = true) : zcz X (.builtin "max") (fun xs H Q => ∃ i j, xs = [.int i, .int j] ∧ Q (.int (if j > i then j else i)) H) := by
  intro pins s σ H xs us Q I r h
  obtain ⟨i, j, rfl, q⟩ := h
  obtain ⟨u, w', rfl, ⟨t, rfl⟩, ⟨t', rfl⟩⟩ := zrR r
  refine max_two_ints (I.ok.hd hc) fun h' tk k => ⟨_, H, I.kept k, ?_, q⟩
  by_cases hj : j > i
  · rw [if_pos hj, if_pos hj]; exact ⟨_, rfl⟩
  · rw [if_neg hj, if_neg hj]; exact ⟨_, rfl⟩
theorem znk (hc : X.calm = true) : zcz X (.builtin "min") (fun xs H Q => ∃ i j, xs = [.int i, .int j] ∧ Q (.int (if j < i then j else i)) H) := by
  intro pins s σ H xs us Q I r h
  obtain ⟨i, j, rfl, q⟩ := h
  obtain ⟨u, w', rfl, ⟨t, rfl⟩, ⟨t', rfl⟩⟩ := zrR r
  refine min_two_ints (I.ok.hd hc) fun h' tk k => ⟨_, H, I.kept k, ?_, q⟩
  by_cases hj : j < i
  · rw [if_pos hj, if_pos hj]; exact ⟨_, rfl⟩
  · rw [if_neg hj, if_neg hj]; exact ⟨_, rfl⟩
end
end L2
namespace L2
open PySem PySem.Spec PyProof.Rows
theorem RelO.some_of {v : V} {o : Option Value} (r : RelO (some v) o) : ∃ u, o = some u ∧ RelV v u := by
  cases o with
  | none => exact (show False from r).elim
  | some u => exact ⟨u, rfl, r⟩
end L2
namespace L2
open PySem PySem.Spec PyProof.Rows
structure Room (k : Nat) (A : Around) : Prop where
  hd : A.handled = none
  dp : A.depth + 3 * k + 5 < recursionLimit
  un : A.units + 16 * k + 200 < cLine
theorem Room.deeper {k : Nat} {A : Around} (r : Room (k + 1) A) (env : Env) : Room k (A.deeper env) :=
  ⟨r.hd, by have := r.dp; show A.depth + 1 + 3 * k + 5 < _; omega, by have := r.un; show A.units + 3 + 16 * k + 200 < _; omega⟩
theorem Room.depth {k : Nat} {A : Around} (r : Room k A) : A.depth < recursionLimit := by have := r.dp; omega
theorem Room.units {k : Nat} {A : Around} (r : Room k A) : A.units + 64 < cLine := by have := r.un; omega
noncomputable def zzg : TA := fun _ H Q => Q [] H
noncomputable def zxm (ta : TE) (tr : TA) : TA := fun σ H Q => ta σ H fun x H1 => tr σ H1 fun xs H2 => Q (x :: xs) H2
section
variable {X : Cx} {e : Expr} {es : List Expr} {te : TE} {t : TA} {pos : Pos}
theorem zgX : PA X [] zzg := fun _ _ _ _ H Q I h => Calls.spliced_nil ⟨[], H, I, .nil, h⟩
theorem zcr (ha : PE X e te) (hr : PA X es t) (hs : starEach (e :: es) X.env = (false, eval e X.env) :: starEach es X.env := by rfl) : PA X (e :: es) (zxm te t) := by
  intro pos pins s σ H Q I h
  rw [hs]
  show wpAny _ _ (spliced ((false, eval e X.env) :: backTo pos (starEach es X.env))) _ _ s
  refine Calls.spliced_cons (thn (ha pins s σ H _ I h) fun u s1 ⟨x, H1, I1, r1, q1⟩ => ?_)
  exact thn (hr pos pins s1 σ H1 _ I1 q1) fun us s2 ⟨xs, H2, I2, r2, q2⟩ => ⟨x :: xs, H2, I2, .cons r1 r2, q2⟩
noncomputable def zzh (t : TA) : TE := fun σ H Q => t σ H fun xs H1 => xs.length ≤ sizeLine ∧ ∀ p, H1 p = none → Q (.ref p) (upd H1 p (.tup xs))
noncomputable def zzi (t : TA) : TE := fun σ H Q => t σ H fun xs H1 => xs.length ≤ sizeLine ∧ ∀ p, H1 p = none → Q (.ref p) (upd H1 p (.lst xs))
theorem ztS {x1} (h : PA X es t) : PE X (.Tuple es x1 pos) (zzh t) := by
  intro pins s σ H Q I hq
  refine wpAny_Tuple_spliced (thn (h pos pins s σ H _ I hq) fun us s1 ⟨xs, H1, I1, r, z, q⟩ => ⟨by rw [← r.length]; exact z, ?_⟩)
  have hf : H1 s1.heap.objs.size = none := I1.hok.fresh (Nat.le_refl _)
  refine ⟨.ref s1.heap.objs.size, upd H1 s1.heap.objs.size (.tup xs), I1.laid (t' := s1.toks) (fun b u e => Heap.get?_push_of_some _ e) (Nat.le_refl _) ?_, rfl, q _ hf⟩
  exact ⟨z, us, r, ⟨_, Heap.get?_push_size _ rfl, rfl, _, rfl⟩⟩
theorem ztT (h : PA X es t) : PE X (.List es pos) (zzi t) := by
  intro pins s σ H Q I hq
  refine wpAny_List_spliced (thn (h pos pins s σ H _ I hq) fun us s1 ⟨xs, H1, I1, r, z, q⟩ => ⟨by rw [← r.length]; exact z, ?_⟩)
  have hf : H1 s1.heap.objs.size = none := I1.hok.fresh (Nat.le_refl _)
  refine ⟨.ref s1.heap.objs.size, upd H1 s1.heap.objs.size (.lst xs), I1.laid (t' := s1.toks) (fun b u e => Heap.get?_push_of_some _ e) (Nat.le_refl _) ?_, rfl, q _ hf⟩
  exact ⟨z, us, 0, r, Heap.get?_push_size _ rfl⟩
end
noncomputable abbrev Sp := List V → Hp → VK → XK → Prop
noncomputable abbrev CXT := List Env → Hp → Shared → XK → Value → Shared → Prop
structure Env0 (P : Program) (w : World) (K : PySem.W.Frag) (mg : Str → Option Value) (base : Heap) (A : Around) (outer : List Env) (s : Shared) (H : Hp) : Prop where
  frames : A.frames = some outer
  mod : Mod K mg base
  bs : ∀ b o, base.get? b = some o → s.heap.get? b = some o ∧ H b = none
  bsz : base.objs.size ≤ s.heap.objs.size
  funs : s.heap.FunFrames base outer
  frf : ∀ b ∈ frs outer, H b = none
  hok : HOk P w H s.heap
  bare : AllBare s.gens
noncomputable def CE (outer : List Env) (P : Program) (w : World) (H : Hp) (s : Shared) (Q : VK) (u : Value) (s' : Shared) : Prop :=
  ∃ v H', s'.os = s.os ∧ AllBare s'.gens ∧ Un (frs outer) [] H H' s.heap s'.heap ∧ HOk P w H' s'.heap ∧ RelV v u ∧ Q v H'
noncomputable def CR (CX : CXT) (outer : List Env) (P : Program) (w : World) (H : Hp) (s : Shared) (Q : VK) (E : XK) (r : Result) (s' : Shared) : Prop :=
  match r with
  | .ok (.ret u) => CE outer P w H s Q u s'
  | .ok _ => False
  | .error e => CX outer H s E e s'
structure FnOk (P : Program) (w : World) (K : PySem.W.Frag) (mg : Str → Option Value) (base : Heap) (CX : CXT) (k : Nat) (f : Addr) (fd : FuncData) (ps : List Str) (sp : Sp) : Prop where
  len : ∀ vs H Q E, sp vs H Q E → vs.length = ps.length
  run : ∀ (A : Around) (outer : List Env) (s : Shared) (H : Hp) (args : Args) (us : List Value) (vs : List V) (Q : VK) (E : XK), Room k A → Env0 P w K mg base A outer s H → BindsTo s fd args (ps.zip us) → Vals vs us → sp vs H Q E →
    codeAny (model P w) A (.call (.ref f) args) (CR CX outer P w H s Q E) s
theorem FnOk.imp {P : Program} {w : World} {K : PySem.W.Frag} {mg : Str → Option Value} {base : Heap} {CX : CXT} {k : Nat} {f : Addr} {fd : FuncData} {ps : List Str} {sp sp' : Sp} (F : FnOk P w K mg base CX k f fd ps sp)
    (h : ∀ vs H Q E, sp' vs H Q E → sp vs H Q E) : FnOk P w K mg base CX k f fd ps sp' :=
  ⟨fun vs H Q E q => F.len vs H Q E (h _ _ _ _ q), fun A outer s H args us vs Q E hr he hb hv hs => F.run A outer s H args us vs Q E hr he hb hv (h _ _ _ _ hs)⟩
section
variable {X : Cx} {pins : List (Addr × Obj)} {σ : St} {H : Hp} {s s' : Shared}
theorem Inv.env0 (I : Inv X pins σ H s) : Env0 X.prog X.w X.K X.mg X.base X.A X.stack s H :=
  ⟨I.ok.frames, I.ok.mod, I.bs, Nat.le_trans I.ok.bsz I.sz, I.stack, I.stkFree, I.hok, I.bare⟩
theorem Inv.after {Q : VK} {u : Value} (I : Inv X pins σ H s) (h : CE X.stack X.prog X.w H s Q u s') : EP X pins σ Q u s' := by
  obtain ⟨v, H', os, bare, un, hok, r, q⟩ := h
  obtain ⟨hh, g, d, t, os'⟩ := s'
  obtain rfl : os' = s.os := os
  exact ⟨v, H', I.call (h' := hh) (g' := g) (d' := d) (t' := t) (ch := []) un hok bare (fun b z => absurd z (by simp)), r, q⟩
end
noncomputable def zxn (sp : Sp) (dvs : List V) (E : XK) (t : TA) : TE := fun σ H Q => t σ H fun vs H1 => sp (vs ++ dvs) H1 Q E
noncomputable def Binds (K : PySem.W.Frag) (fd : FuncData) (ps : List Str) (ds : List Value) : Prop :=
  ∀ (s : Shared) (us : List Value), K.In s.heap → (us ++ ds).length = ps.length → BindsTo s fd ⟨us, []⟩ (ps.zip (us ++ ds))
theorem Binds.all {K : PySem.W.Frag} {fd : FuncData} {ps : List Str} (h : ∀ us : List Value, us.length = ps.length → bindArgs fd ⟨us, []⟩ = pure (ps.zip us)) : Binds K fd ps [] := fun s us _ hl => by
  rw [List.append_nil] at hl ⊢
  exact .of_eq (h us hl)
noncomputable def znl (CX : CXT) (X : Cx) (E : XK) : Prop := ∀ (pins : List (Addr × Obj)) (σ : St) (H : Hp) (s : Shared) (e : Value) (s' : Shared), Inv X pins σ H s → CX X.stack H s E e s' → X.xe e s'
section
variable {X : Cx} {CX : CXT} {k : Nat} {f C : Addr} {fd : FuncData} {ps : List Str} {sp : Sp} {dvs : List V} {ds : List Value} {E : XK} {x m : Str} {p pos apos : Pos} {e o : Expr} {es : List Expr} {ta : TE} {t : TA}
theorem ztU {pins : List (Addr × Obj)} {σ : St} {H : Hp} {s : Shared} {Q : VK} {us : List Value} {vs : List V} (F : FnOk X.prog X.w X.K X.mg X.base CX k f fd ps sp) (hr : Room k X.A) (hb : Binds X.K fd ps ds) (hd : Vals dvs ds) (hx : znl CX X E)
    (I : Inv X pins σ H s) (r : Vals vs us) (h : sp (vs ++ dvs) H Q E) : wpAny (model X.prog X.w) X.A (call (.ref f) us) (EP X pins σ Q) X.xe s := by
  have r2 : Vals (vs ++ dvs) (us ++ ds) := r.append hd
  have hl : (us ++ ds).length = ps.length := by rw [← r2.length]; exact F.len _ _ _ _ h
  refine wpAny_call (codeAny_mono (F.run X.A X.stack s H ⟨us, []⟩ (us ++ ds) (vs ++ dvs) Q E hr I.env0 (hb s us I.kIn hl) r2 h) fun r s' hq => ?_)
  cases r with
  | error e => exact hx pins σ H s e s' I hq
  | ok fl =>
    cases fl with
    | ret u => exact I.after hq
    | next => exact False.elim hq
    | brk => exact False.elim hq
    | cont => exact False.elim hq
theorem znm (F : FnOk X.prog X.w X.K X.mg X.base CX k f fd ps sp) (hr : Room k X.A) (hg : Gl X x) (hm : X.mg x = some (.ref f)) (hk : PySem.W.keepIn X.K (.ref f) = true) (hb : Binds X.K fd ps ds) (hd : Vals dvs ds) (hx : znl CX X E)
    (ha : PA X (e :: es) t) (hdb : (x == ("__debug__" : Str)) = false := by decide) (he : starEach (e :: es) X.env = (false, eval e X.env) :: starEach es X.env := by rfl) (hpl : (backTo pos (starEach es X.env)).any (·.1) = false := by rfl) :
    PE X (.Call (.Name x p) (e :: es) [] pos) (zxn sp dvs E t) := by
  intro pins s σ H Q I h
  refine wpAny_Call_Name_kw (zne I hg hm ?_ hdb)
  refine PySem.W.callWith_K (h₀ := X.base) I.ok.mod.kin hk (thn (ha pos pins s σ H _ I h) fun us s1 ⟨vs, H1, I1, r, q⟩ => ⟨I1.kIn, ?_⟩) he hpl
  exact ztU F hr hb hd hx I1 r q
end
structure FnScope (N P : List Str) (sc : Scope) : Prop where
  kind : sc.kind = .function
  co : sc.isCoroutine = false
  gen : sc.isGenerator = false
  nd : N.Nodup
  pre : N.take P.length = P
  par : ∀ x ∈ P, sc.names.lookup x = some .local ∨ sc.names.lookup x = some .cell
  nofree : ∀ y ∈ sc.names, y.2 ≠ .free
theorem ziI {kindOf : Str → Option NameKind} {x : Str} : ∀ {binds : List (Str × Value)} {m : Str → Option Value}, (∀ v, (x, v) ∉ binds) → bindL kindOf binds m x = m x
  | [], _, _ => rfl
  | (n, v) :: r, m, h => by
    unfold bindL
    rw [ziI fun w hw => h w (List.mem_cons_of_mem _ hw)]
    split
    · have : x ≠ n := by rintro rfl; exact h v List.mem_cons_self
      simp [this]
    · rfl
theorem ziJ {kindOf : Str → Option NameKind} {x : Str} : ∀ {binds : List (Str × Value)} {m : Str → Option Value}, (∀ v, (x, v) ∉ binds) → bindC kindOf binds m x = m x
  | [], _, _ => rfl
  | (n, v) :: r, m, h => by
    unfold bindC
    rw [ziJ fun w hw => h w (List.mem_cons_of_mem _ hw)]
    split
    · rfl
    · have : x ≠ n := by rintro rfl; exact h v List.mem_cons_self
      simp [this]
theorem ziK {kindOf : Str → Option NameKind} {x : Str} {v : Value} : ∀ {P : List Str} {vs : List Value} {i : Nat} {m : Str → Option Value}, P.Nodup → P[i]? = some x → vs[i]? = some v → kindOf x = some .local →
    bindL kindOf (P.zip vs) m x = some v
  | [], _, _, _, _, h, _, _ => by simp at h
  | _ :: _, [], _, _, _, _, h, _ => by simp at h
  | p :: P, w :: vs, 0, m, nd, h1, h2, hk => by
    simp at h1 h2; subst h1; subst h2
    show bindL kindOf ((p, w) :: P.zip vs) m p = _
    unfold bindL
    rw [ziI fun v hv => (List.nodup_cons.mp nd).1 (List.of_mem_zip hv).1, if_pos hk]
    simp
  | p :: P, w :: vs, i + 1, m, nd, h1, h2, hk => by
    show bindL kindOf ((p, w) :: P.zip vs) m x = _
    unfold bindL
    exact ziK (i := i) (List.nodup_cons.mp nd).2 (by simpa using h1) (by simpa using h2) hk
theorem ziL {kindOf : Str → Option NameKind} {x : Str} {v : Value} : ∀ {P : List Str} {vs : List Value} {i : Nat} {m : Str → Option Value}, P.Nodup → P[i]? = some x → vs[i]? = some v → kindOf x ≠ some .local →
    bindC kindOf (P.zip vs) m x = some v
  | [], _, _, _, _, h, _, _ => by simp at h
  | _ :: _, [], _, _, _, _, h, _ => by simp at h
  | p :: P, w :: vs, 0, m, nd, h1, h2, hk => by
    simp at h1 h2; subst h1; subst h2
    show bindC kindOf ((p, w) :: P.zip vs) m p = _
    unfold bindC
    rw [ziJ fun v hv => (List.nodup_cons.mp nd).1 (List.of_mem_zip hv).1, if_neg hk]
    simp
  | p :: P, w :: vs, i + 1, m, nd, h1, h2, hk => by
    show bindC kindOf ((p, w) :: P.zip vs) m x = _
    unfold bindC
    exact ziL (i := i) (List.nodup_cons.mp nd).2 (by simpa using h1) (by simpa using h2) hk
noncomputable def zd4 (N : List Str) (vs : List V) : St := vs.map some ++ List.replicate (N.length - vs.length) none
noncomputable def zcM (CX : CXT) (P : Program) (w : World) (K : PySem.W.Frag) (mg : Str → Option Value) (base : Heap) (N : List Str) (qual : Str) (scope : Scope) (f : Addr) (cd : Value) (A : Around) (outer : List Env) (s : Shared) (H : Hp) (E : XK) : Cx where
  prog := P
  w := w
  K := K
  mg := mg
  base := base
  A := A.deeper (envOfC qual scope s.heap.objs.size f cd)
  N := N
  s₀ := s
  H₀ := H
  env := envOfC qual scope s.heap.objs.size f cd
  outer := outer
  stack := envOfC qual scope s.heap.objs.size f cd :: outer
  ex := []
  calm := true
  fn := fun _ => true
  pn := []
  xe := fun e s' => wpAny (model P w) (A.deeper (envOfC qual scope s.heap.objs.size f cd)) (leaving (envOfC qual scope s.heap.objs.size f cd) e) (fun _ s'' => CX outer H s E e s'') (fun e' s'' => CX outer H s E e' s'') s'
theorem zle {sc : Scope} {n : Nat} {x : Str} (h : sc.names.lookup x = some .cell) : ∃ c, (cellsFrom n sc.names []).lookup x = some c := by
  have q := PySem.W.cellsFrom_some sc.names n [] (.inl h)
  exact Option.isSome_iff_exists.mp q
theorem znn {CX : CXT} {P : Program} {w : World} {K : PySem.W.Frag} {mg : Str → Option Value} {base : Heap} {N ps : List Str} {qual : Str} {scope : Scope} {f : Addr} {cd : Value} {A : Around} {outer : List Env} {s s1 : Shared} {H : Hp} {E : XK} {us : List Value} {vs : List V}
    (S : FnScope N ps scope) (hd : A.handled = none) (e0 : Env0 P w K mg base A outer s H) (hl : vs.length = ps.length) (r : Vals vs us)
    (x : InCallC s s.heap.objs.size (bindL (envOfC qual scope s.heap.objs.size f cd).kindOf (ps.zip us) fun _ => none) (cellsFrom (s.heap.objs.size + 1) scope.names []) (bindC (envOfC qual scope s.heap.objs.size f cd).kindOf (ps.zip us) fun _ => none) s1) :
    Inv (zcM CX P w K mg base N qual scope f cd A outer s H E) [] (zd4 N vs) H s1 := by
  have hpl : ps.length ≤ N.length := by have := congrArg List.length S.pre; rw [List.length_take] at this; omega
  obtain ⟨h1, tk, rfl, hk⟩ := x.done
  have noA : ∀ b : Addr, b ∉ (zcM CX P w K mg base N qual scope f cd A outer s H E).ex := fun b z => absurd (show b ∈ ([] : List Addr) from z) (by simp)
  refine ⟨⟨e0.mod, S.kind, rfl, rfl, Nat.le_refl _, fun y z c h1 h2 => ?_, fun y hy => ?_, fun y c _ h => ?_, fun _ => hd, Around.frames_deeper e0.frames, .inr ⟨rfl, rfl⟩, fun b z => absurd z (noA b), e0.bs, e0.bsz, fun b _ _ => noA b, fun b z => absurd z (noA b), e0.funs, e0.frf⟩,
    rfl, e0.bare, Un.kept hk, ⟨_, x.toInCall.ns, fun i y v h1 h2 h3 => ?_⟩, fun y c h => ⟨_, x.cell y c h⟩, e0.hok.fresh (Nat.le_refl _), fun y c h => ?_, fun p hp => absurd (show p ∈ ([] : List (Addr × Obj)) from hp) (by simp), e0.hok.kept hk, ?_⟩
  · exact name_of_addr x.apart (PySem.mem_of_lookup h1) (PySem.mem_of_lookup h2)
  · have hy : scope.names.lookup y = some .cell ∨ scope.names.lookup y = some .free := hy
    rcases hy with hy | hy
    · exact zle hy
    · exact absurd rfl (S.nofree _ (PySem.mem_of_lookup hy))
  · exact Nat.le_of_lt (x.above y c (PySem.mem_of_lookup h))
  · have hi : i < vs.length := by
      unfold zd4 at h2
      by_cases hi : i < vs.length
      · exact hi
      · rw [List.getElem?_append_right (by simpa using hi)] at h2
        rw [List.getElem?_replicate] at h2
        split at h2 <;> cases h2
    have ha : vs[i]? = some v := by
      unfold zd4 at h2
      rw [List.getElem?_append_left (by simpa using hi), List.getElem?_map] at h2
      cases e : vs[i]? with
      | none => rw [e] at h2; cases h2
      | some a => rw [e] at h2; cases h2; rfl
    obtain ⟨u, hu, rv⟩ := r.get ha
    have hp : ps[i]? = some y := by
      rw [← S.pre, List.getElem?_take_of_lt (by omega)]; exact h1
    have ndP : ps.Nodup := by rw [← S.pre]; exact S.nd.sublist (List.take_sublist _ _)
    refine ⟨u, rv, ?_⟩
    rcases S.par y (List.mem_of_getElem? hp) with k | k
    · exact .inl ⟨k, ziK ndP hp hu k⟩
    · obtain ⟨c, e⟩ := zle (n := s.heap.objs.size + 1) k
      refine .inr ⟨.inl k, c, e, ?_⟩
      have q := x.cell y c e
      rw [ziL ndP hp hu (by show scope.names.lookup y ≠ _; rw [k]; decide)] at q
      exact q
  · exact e0.hok.fresh (Nat.le_of_lt (x.above y c (PySem.mem_of_lookup h)))
  · unfold zd4
    show _ = N.length
    rw [List.length_append, List.length_map, List.length_replicate]
    omega
theorem zxo {CX : CXT} {P : Program} {w : World} {K : PySem.W.Frag} {mg : Str → Option Value} {base : Heap} {k : Nat} {f : Addr} {name qual : Str} {params : Arguments} {body : List Stmt} {scope : Scope} {dV kV doc pm cdv ct oc : Value} {an od : Option Addr}
    {osl : Array (Option Value)} {N ps : List Str} {sp : Sp} (lk : K.lookup f = some ⟨oc, od, .func (PySem.W.fnOf name qual params body scope dV kV doc pm an cdv ct), osl⟩) (hcd : PySem.W.codeIn K cdv qual = true) (S : FnScope N ps scope)
    (len : ∀ vs H Q E, sp vs H Q E → vs.length = ps.length)
    (hbody : ∀ (A : Around) (outer : List Env) (s : Shared) (H : Hp) (vs : List V) (Q : VK) (E : XK), Room k (A.deeper (envOfC qual scope s.heap.objs.size f cdv)) → sp vs H Q E →
      ∃ t, PSs (zcM CX P w K mg base N qual scope f cdv A outer s H E) body t ∧ t { nx := fun _ H' => Q .non H', rt := Q } (zd4 N vs) H) :
    FnOk P w K mg base CX (k + 1) f (PySem.W.fnOf name qual params body scope dV kV doc pm an cdv ct) ps sp := by
  refine ⟨len, fun A outer s H args us vs Q E hr e0 hb r hsp => ?_⟩
  have hl := len _ _ _ _ hsp
  have KX : K.In s.heap := e0.mod.kin.keeps fun b o e => (e0.bs b o e).1
  have lim : s.heap.NoLimit := e0.mod.nolimit.keeps fun b o e => (e0.bs b o e).1
  have hkind : ∀ y ∈ ps.zip us, scope.names.lookup y.1 = some .local ∨ (scope.names.lookup y.1 = some .cell ∧ ((cellsFrom (s.heap.objs.size + 1) scope.names []).lookup y.1).isSome = true) := fun ⟨n, v⟩ hy => by
    rcases S.par n (List.of_mem_zip hy).1 with q | q
    · exact .inl q
    · exact .inr ⟨q, PySem.W.cellsFrom_some _ _ _ (.inl q)⟩
  refine codeAny_call_function hr.depth (KX _ _ lk) rfl S.co S.gen rfl (PySem.W.codeRec_of KX hcd) (hb _ _ _ _ ?_)
  refine wpAny_newFunctionEnv_cells S.kind hkind fun env he s1 x => ?_
  subst he
  refine ⟨lim.keeps x.toInCall.keep, codeAny_func ?_⟩
  obtain ⟨t, ht, hq⟩ := hbody A outer s H vs Q E (hr.deeper _) hsp
  have I : Inv (zcM CX P w K mg base N qual scope f cdv A outer s H E) [] (zd4 N vs) H s1 := znn S hr.hd e0 hl r x
  refine wpAny_mono (ht [] s1 (zd4 N vs) H _ I hq) (fun fl s' hs => ?_) fun e s' hs => hs
  have fin : ∀ {σ' : St} {H' : Hp} {v : V} {u : Value}, Inv (zcM CX P w K mg base N qual scope f cdv A outer s H E) [] σ' H' s' → RelV v u → Q v H' → CE outer P w H s Q u s' :=
    fun {σ' H' v u} J rv q => ⟨v, H', J.os, J.bare, J.base, J.hok, rv, q⟩
  cases fl with
  | ret u =>
    obtain ⟨v, σ', H', J, rv, q⟩ := hs
    exact fin J rv q
  | next =>
    obtain ⟨σ', H', J, q⟩ := hs
    exact fin (v := V.non) (u := Value.none) J rfl q
  | brk =>
    obtain ⟨_, _, _, q⟩ := hs
    exact False.elim q
  | cont =>
    obtain ⟨_, _, _, q⟩ := hs
    exact False.elim q
end L2
namespace L2
open PySem PySem.Spec PyProof.Rows
section
variable {X : Cx} {x : Str} {p pos : Pos} {e : Expr} {es : List Expr} {t : TA} {id T : String} {r : List V → Hp → VK → Prop}
noncomputable def tCB (r : List V → Hp → VK → Prop) (t : TA) : TE := fun σ H Q => t σ H fun vs H1 => r vs H1 Q
theorem zhq (hc : zcz X (.builtin id) r) (hg : Gl X x) (hm : X.mg x = none) (hv : bootBuiltins x = some (.builtin id)) (ha : PA X (e :: es) t) (hn : x ≠ "__name__" := by decide) (hdb : (x == ("__debug__" : Str)) = false := by decide)
    (he : starEach (e :: es) X.env = (false, eval e X.env) :: starEach es X.env := by rfl) (hpl : (backTo pos (starEach es X.env)).any (·.1) = false := by rfl) : PE X (.Call (.Name x p) (e :: es) [] pos) (tCB r t) := by
  intro pins s σ H Q I h
  refine wpAny_Call_Name_kw (ziG I hg hm hv ?_ hn hdb)
  exact PyProof.Rows.callWith_builtin1 (thn (ha pos pins s σ H _ I h) fun us s1 ⟨vs, H1, I1, r1, q1⟩ => hc pins s1 σ H1 vs us Q I1 r1 q1) he hpl
theorem zno (hc : zcz X (.type T) r) (hg : Gl X x) (hm : X.mg x = none) (hv : bootBuiltins x = some (.type T)) (ha : PA X (e :: es) t) (hn : x ≠ "__name__" := by decide) (hdb : (x == ("__debug__" : Str)) = false := by decide)
    (he : starEach (e :: es) X.env = (false, eval e X.env) :: starEach es X.env := by rfl) (hpl : (backTo pos (starEach es X.env)).any (·.1) = false := by rfl) : PE X (.Call (.Name x p) (e :: es) [] pos) (tCB r t) := by
  intro pins s σ H Q I h
  refine wpAny_Call_Name_kw (ziG I hg hm hv ?_ hn hdb)
  exact PyProof.Rows.callWith_type1 (thn (ha pos pins s σ H _ I h) fun us s1 ⟨vs, H1, I1, r1, q1⟩ => hc pins s1 σ H1 vs us Q I1 r1 q1) he hpl
end
end L2
namespace HT
open PySem PyProof.Rows
noncomputable def lexLt : List Int → List Int → Bool
  | [], [] => false
  | [], _ :: _ => true
  | _ :: _, [] => false
  | x :: xs, y :: ys => if x = y then lexLt xs ys else decide (x < y)
theorem lexLt_cons (x y : Int) (xs ys : List Int) : lexLt (x :: xs) (y :: ys) = if x = y then lexLt xs ys else decide (x < y) := rfl
theorem zhr : lexLt [] [] = false := rfl
theorem zgA (y : Int) (ys : List Int) : lexLt [] (y :: ys) = true := rfl
theorem zgB (x : Int) (xs : List Int) : lexLt (x :: xs) [] = false := rfl
theorem zpF (A : Around) (s : Shared) (a : Int) (t : Tok) (c : Int) (u : Tok) : ∃ e, SeqAt.EqAt A s (.int a t) (.int c u) e ∧ (e = true ↔ a = c) :=
  ⟨(a == c), SeqAt.EqAt.int_int a t c u, by simp⟩
theorem zpG (A : Around) (s : Shared) (a : Int) (t : Tok) (c : Int) (u : Tok) (prog : Program) (w : World) (E : Value → Shared → Prop) (Q : Value → Shared → Prop) (h : Q (.bool (decide (a < c))) s) :
    wpAny (model prog w) A (richCompare .Lt (.int a t) (.int c u)) Q E s :=
  (PyProof.Rows.lt_int h : wpAny (model prog w) A (compareOp .Lt (.int a t) (.int c u)) Q E s)
section
open PySem.SeqAt
open PySem.AutoSeq1 (wpAny_loadPart')
open PySem.MeetsSeq PySem.MeetsSeq2 PySem.MeetsSeq3
theorem zhs (l b : Addr) (items items2 : Array Value) (n n2 : Nat) (dd dd2 : Option Addr) (sl sl2 : Array (Option Value)) (ns ms : List Int) (hi : IntsAre items.toList ns) (hj : IntsAre items2.toList ms) :
    Meets (Builtin.«tuple.__lt__» ⟨[.ref l, .ref b], []⟩)
      (fun _ R s => s.heap.get? l = some { cls := .type "tuple", dict := dd, data := .seq items n, slots := sl } ∧ s.heap.get? b = some { cls := .type "tuple", dict := dd2, data := .seq items2 n2, slots := sl2 } ∧
        R (.ok (.ret (.bool (lexLt ns ms)))) s) :=
  .of_wp fun prog w A R s h => by
    obtain ⟨hp, g, d, tk, os⟩ := s; obtain ⟨hl, hb, h⟩ := h
    have f2 := AutoSeq1.sub_tuple_tuple
    have z1 : items.size = ns.length := by rw [← hi.length]; simp
    have z2 : items2.size = ms.length := by rw [← hj.length]; simp
    wp_walk using wpAny_loadPart' hl, wpAny_loadPart' hb, wpAny_forIn_list _ (fun zcO b s' => b.1 = none ∧ s' = ⟨hp, g, d, tk, os⟩ ∧ ∃ (vs ws : List Value) (ns' ms' : List Int), zcO = vs.zip ws ∧
      IntsAre vs ns' ∧ IntsAre ws ms' ∧ ns'.length + items2.size = ms'.length + items.size ∧ R (.ok (.ret (.bool (lexLt ns' ms')))) ⟨hp, g, d, tk, os⟩) _
    case turn =>
      rintro ⟨y, x⟩ zcO b s' ⟨hb', rfl, vs, ws, ns', ms', hz, hvi, hwi, hlen, hR⟩
      cases hvi with
      | nil => rw [List.zip_nil_left] at hz; cases hz
      | cons a t hvi' =>
        cases hwi with
        | nil => rw [List.zip_nil_right] at hz; cases hz
        | cons c u hwi' =>
          rw [List.zip_cons_cons] at hz
          injection hz with hyx hrest
          injection hyx with hy hx
          subst hy hx
          rw [lexLt_cons] at hR
          simp only [List.length_cons] at hlen
          obtain ⟨e, he, hiff⟩ := zpF A.in1 ⟨hp, g, d, tk, os⟩ a t c u
          refine wpAny_bind (he prog w _ _ ?_)
          cases e with
          | true =>
            rw [if_pos (hiff.mp rfl)] at hR
            wp_walk
            exact ⟨rfl, rfl, _, _, _, _, hrest, hvi', hwi', by omega, hR⟩
          | false =>
            rw [if_neg (fun q => absurd (hiff.mpr q) Bool.false_ne_true)] at hR
            have hri := zpG A.in1 ⟨hp, g, d, tk, os⟩ a t c u prog w
            wp_walk using hri
            exact ⟨_, rfl, by simpa using hR⟩
    case fin =>
      rintro ⟨b1, b2⟩ s' ⟨hb', rfl, vs, ws, ns', ms', hz, hvi, hwi, hlen, hR⟩
      simp only at hb'
      subst hb'
      have hv : lexLt ns' ms' = decide (items.size < items2.size) := by
        cases hvi with
        | nil =>
          cases hwi with
          | nil =>
            simp only [List.length_nil] at hlen
            rw [zhr]
            exact (decide_eq_false (by omega)).symm
          | cons c u hw =>
            simp only [List.length_nil, List.length_cons] at hlen
            rw [zgA]
            exact (decide_eq_true (by omega)).symm
        | cons a t hv =>
          cases hwi with
          | nil =>
            simp only [List.length_nil, List.length_cons] at hlen
            rw [zgB]
            exact (decide_eq_false (by omega)).symm
          | cons c u hw =>
            rw [List.zip_cons_cons] at hz
            cases hz
      rw [hv] at hR
      wp_walk
      exact ⟨_, rfl, by simpa [Builtin.Tuple.tupleCompareSizes] using hR⟩
    case h =>
      exact ⟨rfl, rfl, items.toList, items2.toList, ns, ms, rfl, hi, hj, by omega, h⟩
end
section
variable {prog : Program} {w : World} {A : Around} {E : Value → Shared → Prop} {s : Shared}
theorem lt_tupInts {l b : Addr} {items items2 : Array Value} {ns ms : List Int} {Q : Value → Shared → Prop} (hl : IsTup s.heap l items) (hb : IsTup s.heap b items2) (hi : IntsAre items.toList ns) (hj : IntsAre items2.toList ms)
    (hu : A.units < cLine) (h : Q (.bool (lexLt ns ms)) s) : wpAny (model prog w) A (compareOp .Lt (.ref l) (.ref b)) Q E s := by
  obtain ⟨⟨cls, dd, data, sl⟩, ho, hc, n, hd⟩ := id hl
  obtain ⟨⟨cls2, dd2, data2, sl2⟩, ho2, hc2, n2, hd2⟩ := id hb
  simp only at hc hd hc2 hd2
  subst hc hd hc2 hd2
  exact richCompare_meets_room (op := .Lt) ⟨_, ho, rfl⟩ ⟨_, ho2, rfl⟩ PySem.F.slot_tuple_lt PySem.F.entry_tuple_lt (PySem.F.args_tuple_lt_2 _ _) (zhs l b items items2 n n2 dd dd2 sl sl2 ns ms hi hj)
    ⟨ho, ho2, show Value.bool (lexLt ns ms) ≠ Value.notImplemented ∧ Q (.bool (lexLt ns ms)) s from ⟨(fun x => nomatch x), h⟩⟩ hu
theorem cat_tup {t b : Addr} {vs ws : List Value} {Q : Value → Shared → Prop} (ht : IsTup s.heap t vs.toArray) (hb : IsTup s.heap b ws.toArray) (hv : vs ≠ [])
    (h1 : ws = [] → Q (.ref t) s) (h2 : ws ≠ [] → Q (.ref s.heap.objs.size) { s with heap := s.heap.push { cls := .type "tuple", data := .seq (vs ++ ws).toArray } })
    (hsz : vs.length + ws.length ≤ sizeLine) : wpAny (model prog w) A (binaryOp .Add (.ref t) (.ref b)) Q E s := by
  obtain ⟨⟨cls, dd, data, sl⟩, ho, hc, n, hd⟩ := id ht
  obtain ⟨⟨cls2, dd2, data2, sl2⟩, ho2, hc2, n2, hd2⟩ := id hb
  simp only at hc hd hc2 hd2
  subst hc hd hc2 hd2
  have e : vs.toArray ++ ws.toArray = (vs ++ ws).toArray := by simp
  by_cases hw : ws = []
  · exact concat_meets ⟨_, ho, rfl⟩ ⟨_, ho2, rfl⟩ noFill_tuple_add seq_tuple_add PySem.F.slot_tuple_add PySem.F.entry_tuple_add (PySem.F.args_tuple_add_2 _ _)
      (tuple_addW1 t b vs.toArray ws.toArray n n2 dd dd2 sl sl2 (by simpa using hv) (by simp [hw])) ⟨ho, ho2, h1 hw⟩
  · refine concat_meets ⟨_, ho, rfl⟩ ⟨_, ho2, rfl⟩ noFill_tuple_add seq_tuple_add PySem.F.slot_tuple_add PySem.F.entry_tuple_add (PySem.F.args_tuple_add_2 _ _)
      (tuple_addW2 t b vs.toArray ws.toArray n n2 dd dd2 sl sl2 (by simpa using hv) (by simpa using hw) (by rw [List.size_toArray, List.size_toArray]; exact hsz)) ⟨ho, ho2, ?_⟩
    rw [e]
    exact h2 hw
noncomputable def sIx (n d : Nat) : Option Int → Nat
  | none => d
  | some v => if v < 0 then (v + (n : Int)).toNat else min v.toNat n
theorem sIx_none (n d : Nat) : sIx n d none = d := rfl
theorem sIx_nat (n d k : Nat) : sIx n d (some (k : Int)) = min k n := by
  show (if (k : Int) < 0 then ((k : Int) + (n : Int)).toNat else min (k : Int).toNat n) = min k n
  rw [if_neg (by omega), Int.toNat_natCast]
theorem ztV (n d : Nat) (hd : d ≤ n) (o : Option Int) : sIx n d o ≤ n := by
  cases o with
  | none => exact hd
  | some v =>
    show (if v < 0 then (v + (n : Int)).toNat else min v.toNat n) ≤ n
    by_cases hv : v < 0
    · rw [if_pos hv]; omega
    · rw [if_neg hv]; exact Nat.min_le_right _ _
theorem znp (v : Int) (n d : Nat) : (if v < 0 then max (v + (n : Int)) 0 else min v (n : Int)) = ((sIx n d (some v) : Nat) : Int) := by
  show (if v < 0 then max (v + (n : Int)) 0 else min v (n : Int)) = (((if v < 0 then (v + (n : Int)).toNat else min v.toNat n) : Nat) : Int)
  by_cases hv : v < 0
  · simp only [if_pos hv]; omega
  · simp only [if_neg hv]; omega
theorem zmp (lo hi : Option Int) (n : Nat) : Builtin.Slice.sliceAdjust lo hi 1 (n : Int) = (((sIx n 0 lo : Nat) : Int), ((sIx n n hi : Nat) : Int)) := by
  have h1 : ¬ ((1 : Int) < 0) := by omega
  unfold Builtin.Slice.sliceAdjust
  simp only [h1, if_false]
  refine Prod.ext ?_ ?_
  · cases lo with
    | none => rfl
    | some v => exact znp v n 0
  · cases hi with
    | none => rfl
    | some v => exact znp v n n
theorem zmq (i j : Nat) : Builtin.Slice.slicePlaces (i : Int) (j : Int) 1 = j - i := by
  unfold Builtin.Slice.slicePlaces
  have h1 : (1 : Int) > 0 := by omega
  simp only [h1, if_true, Int.ediv_one]
  split <;> omega
theorem zgY {v : Value} {o : Option Int} {Q : Option Int → Shared → Prop} (p : IsPart v o) (h : Q o s) : wpAny (model prog w) A (Builtin.Slice.slicePartIndex v) Q E s := by
  cases p with
  | none => exact slicePart_none h
  | int i t => exact slicePart_int h
theorem zfm {sl : Addr} {vl vu : Value} {lo hi : Option Int} {n : Nat} {Q : Int × Int × Nat → Shared → Prop} (hs : s.heap.IsSliceOf sl vl vu .none) (pl : IsPart vl lo) (pu : IsPart vu hi)
    (h : Q (((sIx n 0 lo : Nat) : Int), 1, sIx n n hi - sIx n 0 lo) s) : wpAny (model prog w) A (Builtin.Slice.sliceApplied (.ref sl) (pure (n : Int))) Q E s := by
  obtain ⟨os, hos, hcs, hds⟩ := id hs
  unfold Builtin.Slice.sliceApplied Builtin.Slice.sliceFields
  refine wpAny_bind (wpAny_bind (wpAny_field hos hds (x := vl) rfl (wpAny_bind (wpAny_field hos hds (x := vu) rfl (wpAny_bind (wpAny_field hos hds (x := .none) rfl (wpAny_pure ?_)))))))
  refine wpAny_bind (slicePart_none ?_)
  show wpAny _ _ (if ((1 : Int) == 0) = true then _ else _) _ _ s
  rw [if_neg (by decide)]
  refine wpAny_bind (zgY pl (wpAny_bind (zgY pu (wpAny_bind (wpAny_pure ?_)))))
  show wpAny _ _ (match Builtin.Slice.sliceAdjust lo hi 1 (n : Int) with | (lo, hi) => pure (lo, (1 : Int), Builtin.Slice.slicePlaces lo hi 1)) _ _ s
  rw [zmp lo hi n]
  show wpAny _ _ (pure (((sIx n 0 lo : Nat) : Int), (1 : Int), Builtin.Slice.slicePlaces ((sIx n 0 lo : Nat) : Int) ((sIx n n hi : Nat) : Int) 1)) _ _ s
  rw [zmq]
  exact wpAny_pure h
theorem zpH (xs : Array Value) (i k : Nat) : ((List.range k).filterMap fun (m : Nat) => xs[((i : Int) + (m : Int) * 1).toNat]?).toArray = ((xs.toList.drop i).take k).toArray := by
  have e : (fun (m : Nat) => xs[((i : Int) + (m : Int) * 1).toNat]?) = fun m => xs[i + m]? := by
    funext m
    have : ((i : Int) + (m : Int) * 1).toNat = i + m := by omega
    rw [this]
  rw [e]
  have := pick_run xs i k
  rw [List.filterMap_map] at this
  have e2 : ((fun x => xs[x]?) ∘ fun x => i + x) = fun m => xs[i + m]? := rfl
  rw [e2] at this
  rw [this]
theorem getItem_tuple_cut {t sl : Addr} {items : Array Value} {vl vu : Value} {lo hi : Option Int} {Q : Value → Shared → Prop} (ht : IsTup s.heap t items) (hs : s.heap.IsSliceOf sl vl vu .none) (pl : IsPart vl lo) (pu : IsPart vu hi)
    (hw : ¬ (sIx items.size 0 lo = 0 ∧ sIx items.size items.size hi = items.size))
    (h : Q (.ref s.heap.objs.size) { s with heap := s.heap.push { cls := .type "tuple", data := .seq ((items.toList.drop (sIx items.size 0 lo)).take (sIx items.size items.size hi - sIx items.size 0 lo)).toArray } })
    (hsz : items.size ≤ sizeLine) : wpAny (model prog w) A (getItem (.ref t) (.ref sl)) Q E s := by
  have htake : sizeOk (.seq ((items.toList.drop (sIx items.size 0 lo)).take (sIx items.size items.size hi - sIx items.size 0 lo)).toArray) := by
    show ((items.toList.drop (sIx items.size 0 lo)).take (sIx items.size items.size hi - sIx items.size 0 lo)).toArray.size ≤ sizeLine
    rw [List.size_toArray, List.length_take, List.length_drop, Array.length_toList]
    omega
  have hj : sIx items.size items.size hi ≤ items.size := ztV _ _ (Nat.le_refl _) hi
  obtain ⟨os, hos, hcs, hds⟩ := id hs
  have hTs : s.TypeIs (.ref sl) "slice" := ⟨os, hos, hcs⟩
  unfold getItem
  try with_reducible refine wpAny_holding ?_
  first | refine wpAny_bind (wpAny_pure ?_) | skip
  refine wpAny_bind (wpAny_sequenceKey ht.typeIs (by decide) ?_)
  refine wpAny_bind (wpAny_callSpecial?_slot (name := Str.ofString "__getitem__") ht.typeIs PyProof.Rows.slot_tuple_getitem
    (wpAny_call_entry PyProof.Rows.slot_tuple_getitem ht.typeIs entry_tuple_getitem ?_ (args_tuple_getitem _ _)))
  show wpAny _ _ (Builtin.Tuple.tupleItemsOf (.ref t) >>= _) _ _ s
  refine wpAny_bind (tupleItemsOf_ ht ?_)
  refine wpAny_bind (wpAny_typeOf hTs ?_)
  rw [if_pos (by decide)]
  refine wpAny_bind (zfm hs pl pu ?_)
  have hno : ¬ ((((sIx items.size 0 lo : Nat) : Int) == 0 && (1 : Int) == 1 && (sIx items.size items.size hi - sIx items.size 0 lo) == items.size) = true) := by
    intro q
    rw [Bool.and_eq_true, Bool.and_eq_true] at q
    have q1 : ((sIx items.size 0 lo : Nat) : Int) = 0 := eq_of_beq q.1.1
    have q2 : sIx items.size items.size hi - sIx items.size 0 lo = items.size := eq_of_beq q.2
    exact hw ⟨by omega, by omega⟩
  show wpAny _ _ (if (((sIx items.size 0 lo : Nat) : Int) == 0 && (1 : Int) == 1 && (sIx items.size items.size hi - sIx items.size 0 lo) == items.size) = true then _ else _) _ _ s
  rw [if_neg hno, zpH]
  first
    | exact wpAny_bind (m := Builtin.Tuple.tupleExact _) (wpAny_newObj_type (wpAny_pure ⟨_, rfl, wpAny_pure h⟩) htake)
    | exact wpAny_bind (m := Builtin.Tuple.tupleExact _) (wpAny_newObj_type (wpAny_bind (wpAny_pure (wpAny_pure ⟨_, rfl, wpAny_pure h⟩))) htake)
    | exact wpAny_bind (wpAny_bind (m := Builtin.Tuple.tupleExact _) (wpAny_newObj_type (wpAny_pure (wpAny_pure ⟨_, rfl, wpAny_pure h⟩)) htake))
    | exact wpAny_bind (wpAny_bind (m := Builtin.Tuple.tupleExact _) (wpAny_newObj_type (wpAny_pure ⟨_, rfl, wpAny_pure h⟩) htake))
end
end HT
namespace L2
open PySem PySem.Spec PyProof.Rows
noncomputable abbrev TO := St → Hp → (Option Int → Hp → Prop) → Prop
noncomputable def PO (X : Cx) (e : Option Expr) (t : TO) : Prop :=
  ∀ (pins : List (Addr × Obj)) (s : Shared) (σ : St) (H : Hp) (Q : Option Int → Hp → Prop), Inv X pins σ H s → t σ H Q →
    wpAny (model X.prog X.w) X.A (evalPart e X.env) (fun u s' => ∃ o H', Inv X pins σ H' s' ∧ IsPart u o ∧ Q o H') X.xe s
noncomputable def zrS : TO := fun _ H Q => Q none H
noncomputable def zxp (t : TE) : TO := fun σ H Q => t σ H fun x H1 => ∃ i, x = .int i ∧ Q (some i) H1
theorem zbR {ns : List Int} : ∀ {us : List Value}, Vals (ns.map V.int) us → IntsAre us ns := by
  induction ns with
  | nil => intro us r; rw [List.map_nil] at r; cases r; exact .nil
  | cons n ns ih =>
    intro us r
    rw [List.map_cons] at r
    cases r with
    | cons r1 r2 =>
      obtain ⟨t, e⟩ := r1
      subst e
      exact .cons n t (ih r2)
section
variable {X : Cx} {e : Expr} {te : TE} {lo hi : Option Expr} {tl th : TO} {pos p2 : Pos}
theorem zkj : PO X none zrS := by
  intro pins s σ H Q I h
  rw [evalPart_none]
  exact wpAny_pure ⟨none, H, I, .none, h⟩
theorem zkk (h : PE X e te) : PO X (some e) (zxp te) := by
  intro pins s σ H Q I hw
  rw [evalPart_some]
  refine thn (h pins s σ H _ I hw) fun u s1 ⟨x, H1, I1, r1, q1⟩ => ?_
  obtain ⟨i, rfl, q⟩ := q1
  obtain ⟨t, rfl⟩ := r1
  exact ⟨some i, H1, I1, .int i t, q⟩
noncomputable def SlR (X : Cx) (r : V → Option Int → Option Int → Hp → VK → Prop) : Prop :=
  ∀ (pins : List (Addr × Obj)) (s : Shared) (σ : St) (H : Hp) (x : V) (v vl vu : Value) (lo hi : Option Int) (sl : Addr) (Q : VK), Inv X pins σ H s → RelV x v → s.heap.IsSliceOf sl vl vu .none → IsPart vl lo → IsPart vu hi → r x lo hi H Q →
    ∃ T id, typeLookup (.type T) "__getitem__" = pure (some (.builtin id)) ∧ s.TypeIs v T ∧ wpAny (model X.prog X.w) X.A (getItem v (.ref sl)) (EP X pins σ Q) X.xe s
noncomputable def tSl (r : V → Option Int → Option Int → Hp → VK → Prop) (te : TE) (tl th : TO) : TE := fun σ H Q => te σ H fun x H1 => tl σ H1 fun l H2 => th σ H2 fun u H3 => r x l u H3 Q
theorem zht {r : V → Option Int → Option Int → Hp → VK → Prop} (hr : SlR X r) (he : PE X e te) (hl : PO X lo tl) (hu : PO X hi th) : PE X (.Subscript e (.Slice lo hi none p2) pos) (tSl r te tl th) := by
  intro pins s σ H Q I h
  refine Subscript_ (thn (he pins s σ H _ I h) fun v s1 ⟨x, H1, I1, r1, q1⟩ => ?_)
  refine wpAny_Slice (thn (hl pins s1 σ H1 _ I1 q1) fun vl s2 ⟨l, H2, I2, pl, q2⟩ => thn (hu pins s2 σ H2 _ I2 q2) fun vu s3 ⟨u, H3, I3, pu, q3⟩ => ?_)
  rw [evalPart_none]
  refine wpAny_pure ?_
  have I4 : Inv X pins σ H3 { s3 with heap := s3.heap.push { cls := .type "slice", data := .fields #[vl, vu, .none] } } := I3.kept (t' := s3.toks) fun b ob q => Heap.get?_push_of_some _ q
  obtain ⟨T, id, hT, ht, hg⟩ := hr pins { s3 with heap := s3.heap.push { cls := .type "slice", data := .fields #[vl, vu, .none] } } σ H3 x v vl vu l u s3.heap.objs.size Q I4 r1 (Heap.IsSliceOf.new ..) pl pu q3
  show wpAny (model X.prog X.w) X.A (subscriptTail e (.Slice lo hi none p2) v (.ref s3.heap.objs.size)) (EP X pins σ Q) X.xe { s3 with heap := s3.heap.push { cls := .type "slice", data := .fields #[vl, vu, .none] } }
  exact tail_any (ops := [.ref s3.heap.objs.size, v]) ht hT hg (by with_unfolding_all rfl)
noncomputable def zpw (xs : List V) (lo hi : Option Int) : List V := (xs.drop (HT.sIx xs.length 0 lo)).take (HT.sIx xs.length xs.length hi - HT.sIx xs.length 0 lo)
theorem zfJ (xs : List V) (lo hi : Option Int) : (zpw xs lo hi).length ≤ xs.length := by
  unfold zpw
  rw [List.length_take, List.length_drop]
  omega
noncomputable def zzj (K : PySem.W.Frag) : V → Option Int → Option Int → Hp → VK → Prop := fun x lo hi H Q => ∃ a xs, x = .ref a ∧ SqT K H a xs ∧
  ¬ (HT.sIx xs.length 0 lo = 0 ∧ HT.sIx xs.length xs.length hi = xs.length) ∧ ∀ p, H p = none → Q (.ref p) (upd H p (.tup (zpw xs lo hi)))
theorem zqU : SlR X (zzj X.K) := by
  intro pins s σ H x v vl vu lo hi sl Q I rx hs pl pu h
  obtain ⟨a, xs, rfl, hx, hw, q⟩ := h
  cases rx
  obtain ⟨its, r, ht, hz⟩ := I.tuple hx
  have hlen : its.toArray.size = xs.length := by rw [List.size_toArray]; exact r.length.symm
  refine ⟨"tuple", _, PyProof.Rows.slot_tuple_getitem.lookup, ht.typeIs, ?_⟩
  refine HT.getItem_tuple_cut ht hs pl pu (by rw [hlen]; exact hw) ?_ (by rw [hlen]; exact hz)
  rw [hlen]
  refine ⟨.ref s.heap.objs.size, _, I.laid (t' := s.toks) (o := .tup (zpw xs lo hi)) (fun b ob q => Heap.get?_push_of_some _ q) (Nat.le_refl _) ?_, rfl, q _ (I.hok.fresh (Nat.le_refl _))⟩
  exact ⟨Nat.le_trans (zfJ xs lo hi) hz, _, (r.drop (HT.sIx xs.length 0 lo)).take (HT.sIx xs.length xs.length hi - HT.sIx xs.length 0 lo), IsTup.new _ _⟩
noncomputable def zzk (K : PySem.W.Frag) : R2 := fun x y H Q => ∃ a b ns ms, x = .ref a ∧ y = .ref b ∧ SqT K H a (ns.map V.int) ∧ SqT K H b (ms.map V.int) ∧ Q (.bl (HT.lexLt ns ms)) H
theorem ztW (hu : X.A.units < cLine) : OpR X (compareOp .Lt) (zzk X.K) := by
  intro pins s σ H x y v u Q I rx ry h
  obtain ⟨a, b, ns, ms, rfl, rfl, ha, hb, q⟩ := h
  cases rx
  cases ry
  obtain ⟨its, r1, p1, _⟩ := I.tuple ha
  obtain ⟨its2, r2, p2, _⟩ := I.tuple hb
  have i1 : IntsAre its.toArray.toList ns := zbR r1
  have i2 : IntsAre its2.toArray.toList ms := zbR r2
  exact HT.lt_tupInts p1 p2 i1 i2 hu ⟨.bl (HT.lexLt ns ms), H, I, rfl, q⟩
noncomputable def zxq (K : PySem.W.Frag) : R2 := fun x y H Q => ∃ a b xs ys, x = .ref a ∧ y = .ref b ∧ SqT K H a xs ∧ SqT K H b ys ∧ xs ≠ [] ∧ xs.length + ys.length ≤ sizeLine ∧
  (ys = [] → Q (.ref a) H) ∧ (ys ≠ [] → ∀ p, H p = none → Q (.ref p) (upd H p (.tup (xs ++ ys))))
theorem Vals.nil_iff {xs : List V} {us : List Value} (r : Vals xs us) : us = [] ↔ xs = [] := by
  cases r with
  | nil => simp
  | cons _ _ => simp
theorem zrT : OpR X (binaryOp .Add) (zxq X.K) := by
  intro pins s σ H x y v u Q I rx ry h
  obtain ⟨a, b, xs, ys, rfl, rfl, ha, hb, hx, hz, q1, q2⟩ := h
  cases rx
  cases ry
  obtain ⟨its, r1, p1, _⟩ := I.tuple ha
  obtain ⟨its2, r2, p2, _⟩ := I.tuple hb
  refine HT.cat_tup p1 p2 (fun z => hx (r1.nil_iff.mp z)) (fun z => ⟨.ref a, H, I, rfl, q1 (r2.nil_iff.mp z)⟩) (fun z => ?_) (by rw [← r1.length, ← r2.length]; exact hz)
  refine ⟨.ref s.heap.objs.size, _, I.laid (t' := s.toks) (o := .tup (xs ++ ys)) (fun b ob q => Heap.get?_push_of_some _ q) (Nat.le_refl _) ?_, rfl, q2 (fun w => z (r2.nil_iff.mpr w)) _ (I.hok.fresh (Nat.le_refl _))⟩
  exact ⟨by rw [List.length_append]; exact hz, _, r1.append r2, IsTup.new _ _⟩
end
end L2
namespace L2
open PySem PySem.Spec PyProof.Rows
noncomputable def ixN (n : Nat) (i : Int) : Option Nat := if 0 ≤ i then (if i < n then some i.toNat else none) else if -(n : Int) ≤ i then some (i + n).toNat else none
noncomputable def atI {α : Type} (xs : List α) (i : Int) : Option α := (ixN xs.length i).bind fun j => xs[j]?
theorem zrU {n : Nat} {i : Int} {j : Nat} (h : ixN n i = some j) : seqIndex? i n = some j ∧ j < n ∧ -(n : Int) ≤ i ∧ i < n := by
  unfold ixN at h
  by_cases h0 : 0 ≤ i
  · rw [if_pos h0] at h
    by_cases h1 : i < n
    · rw [if_pos h1] at h
      have e : i.toNat = j := Option.some.inj h
      exact ⟨by rw [seqIndex_of h0 h1, e], by omega, by omega, h1⟩
    · rw [if_neg h1] at h; cases h
  · rw [if_neg h0] at h
    by_cases h1 : -(n : Int) ≤ i
    · rw [if_pos h1] at h
      have e : (i + n).toNat = j := Option.some.inj h
      exact ⟨by rw [seqIndex_neg (by omega) h1, e], by omega, h1, by omega⟩
    · rw [if_neg h1] at h; cases h
theorem znq {α : Type} {xs : List α} {i : Int} {v : α} (h : atI xs i = some v) : ∃ j, seqIndex? i xs.length = some j ∧ xs[j]? = some v ∧ j < xs.length ∧ -(xs.length : Int) ≤ i ∧ i < xs.length := by
  unfold atI at h
  cases e : ixN xs.length i with
  | none => rw [e] at h; cases h
  | some j =>
    rw [e] at h
    obtain ⟨h1, h2, h3, h4⟩ := zrU e
    exact ⟨j, h1, h, h2, h3, h4⟩
theorem atI_nat {α : Type} {xs : List α} {j : Nat} {v : α} (h : xs[j]? = some v) : atI xs (j : Int) = some v := by
  have hj : j < xs.length := (List.getElem?_eq_some_iff.mp h).1
  have e : ixN xs.length (j : Int) = some j := by
    unfold ixN
    rw [if_pos (by omega), if_pos (by omega)]; simp
  unfold atI; rw [e]; exact h
noncomputable def znr (b : Expr) : Prop := ∀ o i, subscripted b false o i = operate [o, i] (getItem o i)
noncomputable def IxR (X : Cx) (r : R2) : Prop :=
  ∀ (value slice : Expr) (pins : List (Addr × Obj)) (s : Shared) (σ : St) (H : Hp) (x y : V) (v u : Value) (Q : VK), Inv X pins σ H s → RelV x v → RelV y u → r x y H Q →
    subscripted slice false v u = operate [v, u] (getItem v u) → wpAny (model X.prog X.w) X.A (subscriptTail value slice v u) (EP X pins σ Q) X.xe s
noncomputable def MtR (X : Cx) (id : String) (r : V → List V → Hp → VK → Prop) : Prop :=
  ∀ (pins : List (Addr × Obj)) (s : Shared) (σ : St) (H : Hp) (x : V) (xs : List V) (v : Value) (us : List Value) (Q : VK), Inv X pins σ H s → RelV x v → Vals xs us → r x xs H Q →
    wpAny (model X.prog X.w) X.A (call (.builtin id) (v :: us)) (EP X pins σ Q) X.xe s
section
variable {X : Cx} {a b : Expr} {ta tb : TE} {pos : Pos}
theorem zxr {r : R2} (hr : IxR X r) (ha : PE X a ta) (hb : PE X b tb) (hs : znr b) : PE X (.Subscript a b pos) (tOp r ta tb) := by
  intro pins s σ H Q I h
  exact Subscript_ (zxe ha hb I h fun v u s2 x y H2 I2 rx ry q => hr a b pins s2 σ H2 x y v u Q I2 rx ry q (hs _ _))
noncomputable def zzl (K : PySem.W.Frag) : R2 := fun x y H Q => ∃ p xs i v, x = .ref p ∧ y = .int i ∧ SqL K H p xs ∧ atI xs i = some v ∧ Q v H
noncomputable def zzm (K : PySem.W.Frag) : R2 := fun x y H Q => ∃ p xs i v, x = .ref p ∧ y = .int i ∧ SqT K H p xs ∧ atI xs i = some v ∧ Q v H
theorem zrV : IxR X (zzl X.K) := by
  intro value slice pins s σ H x y v u Q I rx ry h hs
  obtain ⟨p, xs, i, z, rfl, rfl, hq, he, q⟩ := h
  cases rx
  obtain ⟨t, rfl⟩ := ry
  obtain ⟨its, r, pl, hz⟩ := I.list hq
  obtain ⟨j, h1, h2, h3, h4, h5⟩ := znq he
  obtain ⟨w, ew, rw'⟩ := r.get h2
  have hl := r.length
  have hn := zlc
  have fin : EP X pins σ Q w s := ⟨z, H, I, rw', q⟩
  by_cases h0 : 0 ≤ i
  · have hj : i.toNat = j := by
      rw [seqIndex_of h0 h5] at h1
      exact Option.some.inj h1
    exact item_listR pl.isList h0 (by omega) (by rw [hj]; simpa using ew) fin hs
  · have hj : (i + (its.toArray.size : Int)).toNat = j := by
      rw [seqIndex_neg (by omega) h4] at h1
      rw [List.size_toArray, ← hl]
      exact Option.some.inj h1
    exact subscriptTail_builtinR (x := w) pl.isList.typeIs slot_list_getitem.lookup
      (wpAny_getItem_list_neg (Q := fun r s' => r = w ∧ EP X pins σ Q r s') pl.isList (by omega) (by rw [List.size_toArray] <;> omega) (by omega) (by rw [hj]; simpa using ew) ⟨rfl, fin⟩) hs
theorem ztX : IxR X (zzm X.K) := by
  intro value slice pins s σ H x y v u Q I rx ry h hs
  obtain ⟨p, xs, i, z, rfl, rfl, hq, he, q⟩ := h
  cases rx
  obtain ⟨t, rfl⟩ := ry
  obtain ⟨its, r, pl, hz⟩ := I.tuple hq
  obtain ⟨j, h1, h2, h3, h4, h5⟩ := znq he
  obtain ⟨w, ew, rw'⟩ := r.get h2
  have hl := r.length
  have hn := zlc
  have fin : EP X pins σ Q w s := ⟨z, H, I, rw', q⟩
  exact subscriptTail_builtinR (x := w) pl.typeIs slot_tuple_getitem.lookup
    (getItem_tuple (j := j) (Q := fun r s' => r = w ∧ EP X pins σ Q r s') pl (by omega) (by omega) (by rw [List.size_toArray, ← hl]; exact h1) (by simpa using ew) ⟨rfl, fin⟩) hs
theorem ziM (lo hi : Option Int) (n : Nat) : (sliceBounds lo hi none n).1 = ((HT.sIx n 0 lo : Nat) : Int) ∧ (sliceBounds lo hi none n).2.1 = ((HT.sIx n n hi : Nat) : Int) ∧ (sliceBounds lo hi none n).2.2 = 1 := by
  refine ⟨?_, ?_, rfl⟩
  · cases lo with
    | none => simp [sliceBounds, HT.sIx]
    | some i =>
      simp only [sliceBounds, HT.sIx, Option.getD_none, show (1 : Int) > 0 by decide, if_true]
      by_cases h : i < 0
      · simp only [h, if_true] <;> omega
      · simp only [h, if_false] <;> omega
  · cases hi with
    | none => simp [sliceBounds, HT.sIx]
    | some i =>
      simp only [sliceBounds, HT.sIx, Option.getD_none, show (1 : Int) > 0 by decide, if_true]
      by_cases h : i < 0
      · simp only [h, if_true] <;> omega
      · simp only [h, if_false] <;> omega
theorem zhu (its : List Value) (lo hi : Option Int) : slicePick its.toArray lo hi none = ((its.drop (HT.sIx its.length 0 lo)).take (HT.sIx its.length its.length hi - HT.sIx its.length 0 lo)).toArray := by
  obtain ⟨h1, h2, h3⟩ := ziM lo hi its.toArray.size
  unfold slicePick
  rw [h1, h2, h3]
  simp only [sliceRange_one, pick_run, List.size_toArray] <;> rfl
noncomputable def zzn (K : PySem.W.Frag) : V → Option Int → Option Int → Hp → VK → Prop := fun x lo hi H Q => ∃ a xs, x = .ref a ∧ SqL K H a xs ∧ ∀ p, H p = none → Q (.ref p) (upd H p (.lst (zpw xs lo hi)))
theorem zrW : SlR X (zzn X.K) := by
  intro pins s σ H x v vl vu lo hi sl Q I rx hs pl pu h
  obtain ⟨a, xs, rfl, hx, q⟩ := h
  cases rx
  obtain ⟨its, r, ht, hz⟩ := I.list hx
  have hlen := r.length
  refine ⟨"list", _, slot_list_getitem.lookup, ht.isList.typeIs, ?_⟩
  refine wpAny_getItem_list_slice ht.isList hs pl pu .none (by simp) ?_ (by rw [List.size_toArray] <;> omega)
  rw [zhu, ← hlen]
  refine ⟨.ref s.heap.objs.size, _, I.laid (t' := s.toks) (o := .lst (zpw xs lo hi)) (fun b ob q => Heap.get?_push_of_some _ q) (Nat.le_refl _) ?_, rfl, q _ (I.hok.fresh (Nat.le_refl _))⟩
  exact ⟨Nat.le_trans (zfJ xs lo hi) hz, _, 0, (r.drop (HT.sIx xs.length 0 lo)).take (HT.sIx xs.length xs.length hi - HT.sIx xs.length 0 lo), Heap.get?_push_size _ rfl⟩
theorem zeW : zcz X (.builtin "len") (fun xs H Q => ∃ p ys, xs = [.ref p] ∧ (SqL X.K H p ys ∨ SqT X.K H p ys) ∧ Q (.int ys.length) H) := by
  intro pins s σ H xs us Q I r h
  obtain ⟨p, ys, rfl, hq, q⟩ := h
  obtain ⟨u, rfl, rx⟩ := zfI r
  cases rx
  have hn := zlc
  rcases hq with hq | hq
  · obtain ⟨its, r', pl, hz⟩ := I.list hq
    have hlen := r'.length
    exact Calls.call_len_list pl.isList (by simp only [List.size_toArray] <;> omega) ⟨.int ys.length, H, I.tok _, ⟨s.toks + 1, by rw [List.size_toArray, hlen]⟩, q⟩
  · obtain ⟨its, r', pl, hz⟩ := I.tuple hq
    have hlen := r'.length
    exact len_tuple pl (by simp only [List.size_toArray] <;> omega) ⟨.int ys.length, H, I.tok _, ⟨s.toks + 1, by rw [List.size_toArray, hlen]⟩, q⟩
theorem zd5 : zcz X (.type "tuple") (fun xs H Q => ∃ p ys, xs = [.ref p] ∧ ((SqL X.K H p ys ∧ ∀ l, H l = none → Q (.ref l) (upd H l (.tup ys))) ∨ (SqT X.K H p ys ∧ Q (.ref p) H))) := by
  intro pins s σ H xs us Q I r h
  obtain ⟨p, ys, rfl, h⟩ := h
  obtain ⟨u, rfl, rx⟩ := zfI r
  cases rx
  rcases h with ⟨hq, q⟩ | ⟨hq, q⟩
  · obtain ⟨its, r', pl, hz⟩ := I.list hq
    have hlen := r'.length
    refine call_tuple_list pl.isList (fun h' kp => ?_) (by simp only [List.size_toArray] <;> omega)
    have I1 : Inv X pins σ H { s with heap := h' } := I.kept (t' := s.toks) kp
    have I2 : Inv X pins σ (upd H h'.objs.size (.tup ys)) { s with heap := h'.push { cls := .type "tuple", data := .seq its.toArray } } :=
      I1.laid (t' := s.toks) (fun b o e => Heap.get?_push_of_some _ e) (Nat.le_refl _) (show ObjOk X.prog X.w _ _ _ (.tup ys) from ⟨hz, its, r', IsTup.new _ _⟩)
    exact ⟨.ref h'.objs.size, _, I2, rfl, q _ (I1.hok.fresh (Nat.le_refl _))⟩
  · obtain ⟨its, r', pl, hz⟩ := I.tuple hq
    exact call_tuple_same pl ⟨.ref p, H, I, rfl, q⟩
noncomputable def tyV (K : PySem.W.Frag) (T : String) (x : V) (H : Hp) : Prop := match x with
  | .str _ => T = "str"
  | .int _ => T = "int"
  | .ref p => (T = "list" ∧ ∃ xs, SqL K H p xs) ∨ (T = "tuple" ∧ ∃ o, K.lookup p = some o ∧ o.cls = .type "tuple" ∧ o.dict = none) ∨
      (T = "dict" ∧ ((∃ kvs, H p = some (.dK kvs)) ∨ ∃ kvs, H p = some (.dT kvs))) ∨ (T = "set" ∧ ∃ S n, H p = some (.set S n))
  | _ => False
theorem zqV {pins : List (Addr × Obj)} {σ : St} {H : Hp} {s : Shared} {T : String} {x : V} {v : Value} (I : Inv X pins σ H s) (r : RelV x v) (ty : tyV X.K T x H) :
    s.TypeIs v T ∧ ∀ a, v = .ref a → ∃ ob, s.heap.get? a = some ob ∧ ob.dict = none := by
  cases x with
  | str z =>
    obtain ⟨t, rfl⟩ := r
    cases (show T = "str" from ty)
    exact ⟨typeIs_str s z t, fun _ e => nomatch e⟩
  | int i =>
    obtain ⟨t, rfl⟩ := r
    cases (show T = "int" from ty)
    exact ⟨typeIs_int s i t, fun _ e => nomatch e⟩
  | ref p =>
    cases r
    rcases ty with ⟨rfl, xs, hq⟩ | ⟨rfl, o, hk, hc, hd⟩ | ⟨rfl, hk⟩ | ⟨rfl, S, n, hk⟩
    · obtain ⟨its, _, pl, _⟩ := I.list hq
      refine ⟨pl.isList.typeIs, fun a e => ?_⟩
      cases e
      obtain ⟨o, n, e, c, hd, _⟩ := pl
      exact ⟨o, e, hd⟩
    · refine ⟨⟨o, I.kIn p o hk, hc⟩, fun a e => ?_⟩
      cases e
      exact ⟨o, I.kIn _ o hk, hd⟩
    · have z : ∃ o, s.heap.get? p = some o ∧ o.ExactDict := by
        rcases hk with ⟨kvs, hk⟩ | ⟨kvs, hk⟩
        · obtain ⟨_, _, _, _, o, _, _, e, ex, _⟩ := I.hok p _ hk
          exact ⟨o, e, ex⟩
        · obtain ⟨_, _, _, _, o, _, _, e, ex, _⟩ := I.hok p _ hk
          exact ⟨o, e, ex⟩
      obtain ⟨o, e, ex⟩ := z
      refine ⟨⟨o, e, ex.1⟩, fun a e2 => ?_⟩
      cases e2
      exact ⟨o, e, ex.2.1⟩
    · obtain ⟨o, _, _, _, e, ex, _⟩ := I.hok p _ hk
      refine ⟨⟨o, e, ex.1⟩, fun a e2 => ?_⟩
      cases e2
      exact ⟨o, e, ex.2.1⟩
  | _ => exact False.elim ty
noncomputable def zzo (K : PySem.W.Frag) (T : String) (r : V → List V → Hp → VK → Prop) (to : TE) : TE := fun σ H Q => to σ H fun x H1 => tyV K T x H1 ∧ r x [] H1 Q
noncomputable def tBM (K : PySem.W.Frag) (T : String) (r : V → List V → Hp → VK → Prop) (to : TE) (t : TA) : TE := fun σ H Q => to σ H fun x H1 => tyV K T x H1 ∧ t σ H1 fun xs H2 => r x xs H2 Q
variable {o e : Expr} {es : List Expr} {to : TE} {t : TA} {name : Str} {apos cpos : Pos} {T id : String} {r : V → List V → Hp → VK → Prop}
theorem ztY (pa : PlainAttrs T) (slot : Slot T name id) (hty : typeOf (.builtin id) = pure (.type "method_descriptor")) (hm : MtR X id r) (ho : PE X o to)
    (hbase : attributeBase o name X.env (eval o X.env) = eval o X.env := by rfl) (hline : (apos.endLine == cpos.line) = true := by rfl) : PE X (.Call (.Attribute o name apos) [] [] cpos) (zzo X.K T r to) := by
  intro pins s σ H Q I h
  refine wpAny_Call_method0_late hbase hline (thn (ho pins s σ H _ I h) fun v s1 ⟨x, H1, I1, r1, ty, q1⟩ => ?_)
  obtain ⟨h1, h2⟩ := zqV I1 r1 ty
  exact ⟨T, id, pa, slot, hty, h1, h2, Calls.callWith_builtin rfl (PySem.evalArgs_none (hm pins s1 σ H1 x [] v [] Q I1 r1 .nil q1))⟩
theorem ztZ (pa : PlainAttrs T) (slot : Slot T name id) (hty : typeOf (.builtin id) = pure (.type "method_descriptor")) (hm : MtR X id r) (ho : PE X o to) (ha : PA X (e :: es) t)
    (hbase : attributeBase o name X.env (eval o X.env) = eval o X.env := by rfl)
    (hfew : ((backTo cpos (starEach (e :: es) X.env)).all (fun x => !x.1) && (backToKw cpos (keywordEach [] X.env)).all (fun x => x.1.isSome)
      && decide ((e :: es).length + ([] : List Keyword).length + (if ([] : List Keyword).isEmpty then 0 else 1) < 30)) = true := by rfl)
    (hline : (apos.endLine == cpos.line) = true := by rfl) (hs : starEach (e :: es) X.env = (false, eval e X.env) :: starEach es X.env := by rfl) (hplain : (backTo cpos (starEach es X.env)).any (·.1) = false := by rfl) :
    PE X (.Call (.Attribute o name apos) (e :: es) [] cpos) (tBM X.K T r to t) := by
  intro pins s σ H Q I h
  refine wpAny_Call_method_late hbase hfew hline rfl (thn (ho pins s σ H _ I h) fun v s1 ⟨x, H1, I1, r1, ty, q1⟩ => ?_)
  obtain ⟨h1, h2⟩ := zqV I1 r1 ty
  refine ⟨T, id, pa, slot, hty, h1, h2, ?_⟩
  have hA := ha cpos pins s1 σ H1 _ I1 q1
  rw [hs] at hA ⊢
  refine Calls.callWith_builtin (by show (false || (backTo cpos (starEach es X.env)).any (·.1)) = false; rw [hplain] <;> rfl) (Calls.evalArgs_plain ?_)
  exact thn hA fun us s2 ⟨vs, H2, I2, r2, q2⟩ => hm pins s2 σ H2 x vs v us Q I2 r1 r2 q2
end
end L2
namespace L2
open PySem PySem.Spec PyProof.Rows
noncomputable def MtM (X : Cx) (id : String) (r : V → List V → Hp → VK → Prop) : Prop :=
  ∀ (pins : List (Addr × Obj)) (s : Shared) (σ : St) (H : Hp) (x : V) (xs : List V) (v : Value) (us : List Value) (Q : VK), Inv X pins σ H s → RelV x v → Vals xs us → r x xs H Q →
    wpAny (model X.prog X.w) X.A (call (.builtin id) (v :: us)) (EP X pins σ Q) X.xe s
theorem Vals.one : ∀ {x : V} {us : List Value}, Vals [x] us → ∃ u, us = [u] ∧ RelV x u
  | _, _, .cons r .nil => ⟨_, rfl, r⟩
section
variable {X : Cx} {pins : List (Addr × Obj)} {σ : St} {H : Hp} {s : Shared} {l b : Addr} {xs ys zs : List V}
theorem Inv.lset {its its' : List Value} {n : Nat} {f : Array Value → Array Value} {t' : Nat} (I : Inv X pins σ H s) (hH : H l = some (.lst xs))
    (e : s.heap.get? l = some { cls := .type "list", data := .seq its.toArray n }) (hf : f its.toArray = its'.toArray) (hv : Vals ys its') (hz : ys.length ≤ sizeLine) :
    Inv X pins σ (upd H l (.lst ys)) { s with heap := s.heap.update l (Obj.mapSeq f), toks := t' } := by
  have q := PySem.IsL.update e f
  rw [hf] at q
  refine I.write (x := l) (e := l) (by rw [hH]; exact trivial) (.inl rfl) (fun b' u hb hu => (Heap.get?_update_other s.heap (Obj.mapSeq f) (Ne.symm hb)).trans hu) ⟨_, q⟩ ?_
  exact ⟨hz, its', _, hv, q⟩
theorem Inv.lnew {its : List Value} {t' : Nat} (I : Inv X pins σ H s) (hv : Vals ys its) (hz : ys.length ≤ sizeLine) :
    Inv X pins σ (upd H s.heap.objs.size (.lst ys)) { s with heap := s.heap.push { cls := .type "list", data := .seq its.toArray }, toks := t' } :=
  I.laid (fun _ _ q => Heap.get?_push_of_some _ q) (Nat.le_refl _) ⟨hz, its, 0, hv, Heap.get?_push_size _ rfl⟩
theorem Inv.fresh (I : Inv X pins σ H s) : H s.heap.objs.size = none := I.hok.fresh (Nat.le_refl _)
theorem Inv.lstM (I : Inv X pins σ H s) (hH : H l = some (.lst xs)) : xs.length ≤ sizeLine ∧ ∃ (its : List Value) (n : Nat), Vals xs its ∧ xs.length = its.length ∧ s.heap.get? l = some { cls := .type "list", data := .seq its.toArray n } := by
  obtain ⟨z, its, n, r, e⟩ := I.hok l _ hH
  exact ⟨z, its, n, r, r.length, e⟩
end
section
variable {X : Cx}
noncomputable def zrX : V → List V → Hp → VK → Prop := fun x vs H Q => ∃ l xs y, x = .ref l ∧ vs = [y] ∧ H l = some (.lst xs) ∧ xs.length < sizeLine ∧ Q .non (upd H l (.lst (xs ++ [y])))
theorem ziN : MtM X "list.append" zrX := by
  intro pins s σ H x vs v us Q I rx rv h
  obtain ⟨l, xs, y, rfl, rfl, hH, hz, q⟩ := h
  cases rx
  obtain ⟨u, rfl, ru⟩ := rv.one
  obtain ⟨z, its, n, r, hl, e⟩ := I.lstM hH
  refine call_meets F.slot_list_append ⟨_, e, rfl⟩ F.entry_list_append (F.args_list_append_2 _ _) (PySem.list_append l its.toArray n u (by rw [List.size_toArray]; omega)) ⟨e, ?_⟩
  refine ⟨.non, _, I.lset (its' := its ++ [u]) hH e (by simp) (r.append (.cons ru .nil)) ?_, rfl, q⟩
  rw [List.length_append, List.length_singleton]
  omega
end
end L2
namespace L2
open PySem PySem.Spec PyProof.Rows
section
variable {κ : Type} [DecidableEq κ]
noncomputable def zgZ (kvs : List (κ × V)) (k : κ) : Option V := (kvs.find? fun kv => decide (kv.1 = k)).map (·.2)
noncomputable def zhv (kvs : List (κ × V)) (k : κ) (v : V) : List (κ × V) :=
  if (kvs.any fun kv => decide (kv.1 = k)) = true then kvs.map (fun kv => if kv.1 = k then (kv.1, v) else kv) else kvs ++ [(k, v)]
theorem zd6 {p : κ × V} {r : List (κ × V)} {k : κ} (e : p.1 = k) : zgZ (p :: r) k = some p.2 := by simp [zgZ, List.find?_cons, e]
theorem zd7 {p : κ × V} {r : List (κ × V)} {k : κ} (e : ¬ p.1 = k) : zgZ (p :: r) k = zgZ r k := by simp [zgZ, List.find?_cons, e]
theorem zfx (k : κ) : ∀ kvs : List (κ × V), (kvs.any fun kv => decide (kv.1 = k)) = (zgZ kvs k).isSome
  | [] => rfl
  | p :: r => by
    rw [List.any_cons]
    by_cases e : p.1 = k
    · simp only [zd6 e, decide_eq_true e, Bool.true_or, Option.isSome_some]
    · rw [zd7 e, decide_eq_false e, Bool.false_or]; exact zfx k r
theorem zfK (kvs : List (κ × V)) (k : κ) (v : V) : (zhv kvs k v).length ≤ kvs.length + 1 := by
  unfold zhv
  split
  · rw [List.length_map]; omega
  · rw [List.length_append, List.length_cons, List.length_nil]; omega
theorem RelO.isSome_eq {o : Option V} {u : Option Value} (r : RelO o u) : o.isSome = u.isSome := by
  cases o with
  | none => cases u with
    | none => rfl
    | some _ => exact (show False from r).elim
  | some _ => cases u with
    | none => exact (show False from r).elim
    | some _ => rfl
theorem KV.val {kvs : List (κ × V)} {vs : List (κ × Value)} (r : KV kvs vs) (k : κ) : RelO (zgZ kvs k) (valueAt vs k) := by
  unfold KV at r
  induction r with
  | nil => exact True.intro
  | @cons p q ps qs h t ih =>
    obtain ⟨h1, h2⟩ := h
    by_cases e : p.1 = k
    · have e' : q.1 = k := h1.symm.trans e
      have b : valueAt (q :: qs) k = some q.2 := by simp [valueAt, List.find?_cons, e']
      rw [zd6 e, b]; exact h2
    · have e' : ¬ q.1 = k := fun z => e (h1.trans z)
      have b : valueAt (q :: qs) k = valueAt qs k := by simp [valueAt, List.find?_cons, e']
      rw [zd7 e, b]; exact ih
theorem KV.any {kvs : List (κ × V)} {vs : List (κ × Value)} (r : KV kvs vs) (k : κ) : (kvs.any fun kv => decide (kv.1 = k)) = vs.any fun kv => decide (kv.1 = k) := by
  unfold KV at r
  induction r with
  | nil => rfl
  | cons h t ih => rw [List.any_cons, List.any_cons, ih, h.1]
theorem KV.repl {kvs : List (κ × V)} {vs : List (κ × Value)} (r : KV kvs vs) (k : κ) {y : V} {u : Value} (ry : RelV y u) :
    KV (kvs.map fun kv => if kv.1 = k then (kv.1, y) else kv) (vs.map fun kv => if kv.1 = k then (kv.1, u) else kv) := by
  unfold KV at r ⊢
  induction r with
  | nil => exact .nil
  | @cons p q ps qs h t ih =>
    rw [List.map_cons, List.map_cons]
    refine .cons ?_ ih
    obtain ⟨h1, h2⟩ := h
    by_cases e : p.1 = k
    · rw [if_pos e, if_pos (h1.symm.trans e)]; exact ⟨h1, ry⟩
    · rw [if_neg e, if_neg (fun z => e (h1.trans z))]; exact ⟨h1, h2⟩
theorem KV.put {kvs : List (κ × V)} {vs : List (κ × Value)} (r : KV kvs vs) (k : κ) {y : V} {u : Value} (ry : RelV y u) : KV (zhv kvs k y) (stored vs k u) := by
  unfold zhv stored
  rw [r.any k]
  by_cases e : (vs.any fun kv => decide (kv.1 = k)) = true
  · rw [if_pos e, if_pos e]; exact r.repl k ry
  · rw [if_neg e, if_neg e]; exact Paired.snoc r ⟨rfl, ry⟩
theorem KV.length {kvs : List (κ × V)} {vs : List (κ × Value)} (r : KV kvs vs) : kvs.length = vs.length := Paired.length r
end
theorem zns {P : Program} {w : World} {k : Key} {u : Value} (r : RelV (kV k) u) : (zay P w).is k u = true := by
  cases k with
  | inl i => obtain ⟨t, e⟩ := (show ∃ t, u = Value.int i t from r); subst e; exact zkg P w i t
  | inr x => obtain ⟨t, e⟩ := (show ∃ t, u = Value.str x t from r); subst e; exact zkh P w x t
theorem ziO {P : Program} {w : World} : ∀ {ks : List Key} {us : List Value}, Vals (ks.map kV) us → ItemsAre (zay P w) ks us
  | [], _, r => by rw [List.map_nil] at r; cases r; exact .nil
  | k :: ks, _, r => by
    rw [List.map_cons] at r
    cases r with
    | cons h t => exact .cons (zns h) (ziO t)
noncomputable abbrev KT (H : Hp) : List (List Key × V) → List (List Key × Addr × Value) → Prop := Paired fun p q => p.1 = q.1 ∧ H q.2.1 = some (.tup (p.1.map kV)) ∧ RelV p.2 q.2.2
theorem KT.val {H : Hp} {kvs : List (List Key × V)} {xs : List (List Key × Addr × Value)} (r : KT H kvs xs) (k : List Key) : RelO (zgZ kvs k) ((atKey xs k).map (·.2)) := by
  induction r with
  | nil => exact True.intro
  | @cons p q ps qs h t ih =>
    obtain ⟨h1, _, h2⟩ := h
    by_cases e : p.1 = k
    · have e' : q.1 = k := h1.symm.trans e
      have b : atKey (q :: qs) k = some q.2 := by simp [atKey, List.find?_cons, e']
      rw [zd6 e, b]; exact h2
    · have e' : ¬ q.1 = k := fun z => e (h1.trans z)
      have b : atKey (q :: qs) k = atKey qs k := by simp [atKey, List.find?_cons, e']
      rw [zd7 e, b]; exact ih
theorem KT.repl {H : Hp} {kvs : List (List Key × V)} {xs : List (List Key × Addr × Value)} (r : KT H kvs xs) (k : List Key) {y : V} {u : Value} (ry : RelV y u) :
    KT H (kvs.map fun kv => if kv.1 = k then (kv.1, y) else kv) (xs.map (putAt k u)) := by
  induction r with
  | nil => exact .nil
  | @cons p q ps qs h t ih =>
    rw [List.map_cons, List.map_cons]
    refine .cons ?_ ih
    obtain ⟨h1, h2, h3⟩ := h
    unfold putAt
    by_cases e : p.1 = k
    · rw [if_pos e, if_pos (h1.symm.trans e)]; exact ⟨h1, h2, ry⟩
    · rw [if_neg e, if_neg (fun z => e (h1.trans z))]; exact ⟨h1, h2, h3⟩
theorem KT.put {H : Hp} {kvs : List (List Key × V)} {xs : List (List Key × Addr × Value)} (r : KT H kvs xs) (k : List Key) {b : Addr} {y : V} {u : Value} (hb : H b = some (.tup (k.map kV))) (ry : RelV y u) :
    KT H (zhv kvs k y) (storedH xs k b u) := by
  have e : (kvs.any fun kv => decide (kv.1 = k)) = (atKey xs k).isSome := by
    rw [zfx, (r.val k).isSome_eq, Option.isSome_map]
  unfold zhv storedH
  rw [e]
  by_cases q : (atKey xs k).isSome = true
  · rw [if_pos q, if_pos q]; exact r.repl k ry
  · rw [if_neg q, if_neg q]; exact Paired.snoc r ⟨rfl, hb, ry⟩
theorem KT.keeps {H H' : Hp} {kvs : List (List Key × V)} {xs : List (List Key × Addr × Value)} (r : KT H kvs xs) (ht : ∀ b ys, H b = some (.tup ys) → H' b = some (.tup ys)) : KT H' kvs xs :=
  Paired.mapP r fun _ _ z => ⟨z.1, ht _ _ z.2.1, z.2.2⟩
section
variable {P : Program} {w : World} {H : Hp} {h : Heap} {a : Addr}
theorem zt0 {u : HO} (ok : HOk P w H h) (e : Rd H a u) : ObjOk P w H h a u := e.ok ok
theorem zmr {kvs : List (Key × V)} (ok : HOk P w H h) (e : Rd H a (.dK kvs)) : kvs.length ≤ sizeLine ∧ (a == sysModules) = false ∧ ∃ vs, KV kvs vs ∧ h.DictOf (zay P w) a vs :=
  show ObjOk P w H h a (.dK kvs) from zt0 ok e
theorem zxs {kvs : List (Key × V)} (ok : HOk P w H h) (e : H a = some (.dK kvs)) : kvs.length ≤ sizeLine ∧ (a == sysModules) = false ∧ ∃ vs, KV kvs vs ∧ h.DictOf (zay P w) a vs := zmr ok (.inl e)
theorem zg0 {ks : List Key} (ok : HOk P w H h) (e : H a = some (.tup (ks.map kV))) : (tupleKind (zay P w)).is h ks a := by
  obtain ⟨_, its, r, o, h1, h2, n, h3⟩ := (show ObjOk P w H h a (.tup (ks.map kV)) from ok a _ e)
  exact ⟨o, its.toArray, n, h1, h2, h3, by simpa using ziO r⟩
theorem zms {kvs : List (List Key × V)} (ok : HOk P w H h) (e : Rd H a (.dT kvs)) : kvs.length ≤ sizeLine ∧ (a == sysModules) = false ∧
    ∃ xs, KT H kvs xs ∧ h.DictOfH (tupleKind (zay P w)) a xs := by
  obtain ⟨z, y, xs, r, o, es, ep, h1, h2, h3, h4, h5⟩ := (show ObjOk P w H h a (.dT kvs) from zt0 ok e)
  refine ⟨z, y, xs, r, o, es, ep, h1, h2, h3, h4, fun x hx => ?_, h5⟩
  have all : ∀ {l : List (List Key × V)} {m : List (List Key × Addr × Value)}, KT H l m → ∀ x ∈ m, (tupleKind (zay P w)).is h x.1 x.2.1 := by
    intro l m q
    induction q with
    | nil => intro x hx; exact nomatch hx
    | @cons p q ps qs hq t ih =>
      intro x hx
      rcases List.mem_cons.mp hx with e | hx
      · subst e
        exact zg0 ok (by rw [← hq.1]; exact hq.2.1)
      · exact ih x hx
  exact all r x hx
theorem znt {kvs : List (List Key × V)} (ok : HOk P w H h) (e : H a = some (.dT kvs)) : kvs.length ≤ sizeLine ∧ (a == sysModules) = false ∧
    ∃ xs, KT H kvs xs ∧ h.DictOfH (tupleKind (zay P w)) a xs := zms ok (.inl e)
end
noncomputable def DGet (H : Hp) (a : Addr) (y : V) (r : Option V) : Prop :=
  (∃ kvs k, Rd H a (.dK kvs) ∧ y = kV k ∧ r = zgZ kvs k) ∨ ∃ kvs k b, Rd H a (.dT kvs) ∧ y = .ref b ∧ H b = some (.tup (k.map kV)) ∧ r = zgZ kvs k
noncomputable def DPut (H : Hp) (a : Addr) (y v : V) (H' : Hp) : Prop :=
  (∃ kvs k, H a = some (.dK kvs) ∧ y = kV k ∧ kvs.length < sizeLine ∧ H' = upd H a (.dK (zhv kvs k v))) ∨
  ∃ kvs k b, H a = some (.dT kvs) ∧ y = .ref b ∧ H b = some (.tup (k.map kV)) ∧ kvs.length < sizeLine ∧ H' = upd H a (.dT (zhv kvs k v))
theorem DGet.k {H : Hp} {a : Addr} {kvs : List (Key × V)} {k : Key} (e : H a = some (.dK kvs)) : DGet H a (kV k) (zgZ kvs k) := .inl ⟨kvs, k, .inl e, rfl, rfl⟩
theorem DGet.t {H : Hp} {a b : Addr} {kvs : List (List Key × V)} {k : List Key} (e : H a = some (.dT kvs)) (eb : H b = some (.tup (k.map kV))) : DGet H a (.ref b) (zgZ kvs k) := .inr ⟨kvs, k, b, .inl e, rfl, eb, rfl⟩
theorem DPut.k {H : Hp} {a : Addr} {kvs : List (Key × V)} {k : Key} {v : V} (e : H a = some (.dK kvs)) (hl : kvs.length < sizeLine) : DPut H a (kV k) v (upd H a (.dK (zhv kvs k v))) := .inl ⟨kvs, k, e, rfl, hl, rfl⟩
theorem DPut.t {H : Hp} {a b : Addr} {kvs : List (List Key × V)} {k : List Key} {v : V} (e : H a = some (.dT kvs)) (eb : H b = some (.tup (k.map kV))) (hl : kvs.length < sizeLine) :
    DPut H a (.ref b) v (upd H a (.dT (zhv kvs k v))) := .inr ⟨kvs, k, b, e, rfl, eb, hl, rfl⟩
section
variable {X : Cx} {pins : List (Addr × Obj)} {σ : St} {H : Hp} {s : Shared} {a : Addr} {y v : V} {u r : Value} {o : Option V} {A : Around} {E : Value → Shared → Prop}
theorem Inv.big (I : Inv X pins σ H s) : sysModules < s.heap.objs.size := by
  have h : mainGlobals < s.heap.objs.size := (I.mod.glob.keeps I.bk).lt
  exact Nat.lt_trans (by decide) h
theorem znu {Q : Value → Shared → Prop} (hu : A.units + 1 < cLine) (I : Inv X pins σ H s) (g : DGet H a y (some v)) (ry : RelV y u) (h : ∀ w' s', Inv X pins σ H s' → RelV v w' → Q w' s') :
    wpAny (model X.prog X.w) A (getItem (.ref a) u) Q E s := by
  rcases g with ⟨kvs, k, e, ey, l⟩ | ⟨kvs, k, b, e, ey, eb, l⟩
  · subst ey
    obtain ⟨z, hd, vs, rel, dd⟩ := zmr I.hok e
    obtain ⟨w', hw, rw'⟩ := RelO.some_of (v := v) (o := valueAt vs k) (by rw [l]; exact rel.val k)
    exact wpAny_getItem_of (zns ry) dd.mapOf hw (h w' _ (I.tok _) rw')
  · subst ey
    cases (show u = Value.ref b from ry)
    obtain ⟨z, hd, xs, rel, dd⟩ := zms I.hok e
    obtain ⟨w', hw, rw'⟩ := RelO.some_of (v := v) (o := (atKey xs k).map (·.2)) (by rw [l]; exact rel.val k)
    obtain ⟨p, hp, hp2⟩ := jo2.mp hw
    refine wpAny_getItem_heap (tupleKind_room_in1 hu) (zg0 I.hok eb) dd hp ?_
    rw [hp2]
    exact h w' _ (I.tok _) rw'
theorem zyB {Q : Value → Shared → Prop} (hu : A.units + 1 < cLine) (I : Inv X pins σ H s) (g : DGet H a y o) (ry : RelV y u) (h : ∀ s', Inv X pins σ H s' → Q (.bool o.isSome) s') :
    wpAny (model X.prog X.w) A (compareOp .In u (.ref a)) Q E s := by
  rcases g with ⟨kvs, k, e, ey, l⟩ | ⟨kvs, k, b, e, ey, eb, l⟩
  · subst ey
    obtain ⟨z, hd, vs, rel, dd⟩ := zmr I.hok e
    refine wpAny_in_of (zns ry) hd dd.mapOf ?_
    rw [← (rel.val k).isSome_eq, ← l]
    exact h _ (I.tok _)
  · subst ey
    cases (show u = Value.ref b from ry)
    obtain ⟨z, hd, xs, rel, dd⟩ := zms I.hok e
    refine wpAny_in_heap (tupleKind_room_in1 hu) (zg0 I.hok eb) hd dd ?_
    have q := (rel.val k).isSome_eq
    rw [Option.isSome_map] at q
    rw [← q, ← l]
    exact h _ (I.tok _)
theorem znv {Q : Value → Shared → Prop} (hu : A.units + 1 < cLine) (I : Inv X pins σ H s) (g : DGet H a y o) (ry : RelV y u) (h : ∀ s', Inv X pins σ H s' → Q (.bool (!o.isSome)) s') :
    wpAny (model X.prog X.w) A (compareOp .NotIn u (.ref a)) Q E s := by
  rcases g with ⟨kvs, k, e, ey, l⟩ | ⟨kvs, k, b, e, ey, eb, l⟩
  · subst ey
    obtain ⟨z, hd, vs, rel, dd⟩ := zmr I.hok e
    refine wpAny_notIn_of (zns ry) hd dd.mapOf ?_
    rw [← (rel.val k).isSome_eq, ← l]
    exact h _ (I.tok _)
  · subst ey
    cases (show u = Value.ref b from ry)
    obtain ⟨z, hd, xs, rel, dd⟩ := zms I.hok e
    refine wpAny_notIn_heap (tupleKind_room_in1 hu) (zg0 I.hok eb) hd dd ?_
    have q := (rel.val k).isSome_eq
    rw [Option.isSome_map] at q
    rw [← q, ← l]
    exact h _ (I.tok _)
theorem zhw {h' : Heap} {t' : Nat} {ob : HO} (I : Inv X pins σ H s) (mu : Mut (H a)) (hs : Heap.SameBut a s.heap h') (he : ∃ q, h'.get? a = some q) (new : ObjOk X.prog X.w (upd H a ob) h' a ob) :
    Inv X pins σ (upd H a ob) { s with heap := h', toks := t' } :=
  I.write (x := a) (e := a) mu (.inl rfl) (fun b q hb z => (hs.2 b hb).trans z) he new
theorem zt1 {P : Program} {w : World} {H' : Hp} {h' : Heap} {kvs : List (Key × V)} {vs : List (Key × Value)} (z : kvs.length ≤ sizeLine) (hd : (a == sysModules) = false) (rel : KV kvs vs) (dd : h'.DictOf (zay P w) a vs) :
    ObjOk P w H' h' a (.dK kvs) := ⟨z, hd, vs, rel, dd⟩
theorem znw {H' : Hp} {Q : Unit → Shared → Prop} (hu : A.units + 1 < cLine) (I : Inv X pins σ H s) (g : DPut H a y v H') (ry : RelV y u) (rv : RelV v r) (h : ∀ s', Inv X pins σ H' s' → Q () s') :
    wpAny (model X.prog X.w) A (setItem (.ref a) u r) Q E s := by
  rcases g with ⟨kvs, k, e, ey, l, eH⟩ | ⟨kvs, k, b, e, ey, eb, l, eH⟩
  · subst ey eH
    obtain ⟨z, hd, vs, rel, dd⟩ := zxs I.hok e
    have hz : vs.length ≤ sizeLine := by rw [← rel.length]; exact z
    have hl : (zhv kvs k v).length ≤ sizeLine := by have := zfK kvs k v; omega
    refine wpAny_setItem_pairs (hsz := hz) (zns ry) dd fun h' dd' hs => h _ ?_
    have he : ∃ q, h'.get? a = some q := let ⟨q, _, _, hq, _⟩ := dd'; ⟨q, hq⟩
    exact zhw I (by rw [e]; exact True.intro) hs he (zt1 hl hd (rel.put k rv) dd')
  · subst ey eH
    cases (show u = Value.ref b from ry)
    obtain ⟨z, hd, xs, rel, dd⟩ := znt I.hok e
    have hz : xs.length ≤ sizeLine := by rw [← Paired.length rel]; exact z
    have hl : (zhv kvs k v).length ≤ sizeLine := by have := zfK kvs k v; omega
    refine wpAny_setItem_heap (hsz := hz) (tupleKind_room_in1 hu) (zg0 I.hok eb) dd fun h' dd' hs => h _ ?_
    obtain ⟨q, es, ep, hq, h2, h3, h4, _, h5⟩ := dd'
    refine zhw I (by rw [e]; exact True.intro) hs ⟨q, hq⟩ ⟨hl, hd, _, (rel.put k eb rv).keeps fun c ys ec => ?_, q, es, ep, hq, h2, h3, h4, h5⟩
    rw [za3 (zrC ec e (fun z => nomatch z))]
    exact ec
end
theorem zkl {X : Cx} {pins : List (Addr × Obj)} {σ : St} {H : Hp} {s : Shared} {a : Addr} {y : V} {o : Option V} (I : Inv X pins σ H s) (g : DGet H a y o) : s.TypeIs (.ref a) "dict" := by
  rcases g with ⟨kvs, k, e, _, _⟩ | ⟨kvs, k, b, e, _, _, _⟩
  · obtain ⟨_, _, vs, _, dd⟩ := zmr I.hok e
    exact dd.typeIs
  · obtain ⟨_, _, xs, _, dd⟩ := zms I.hok e
    exact dd.typeIs
noncomputable def zxt (td ty tv : TE) : TS := fun D σ H => tv σ H fun v H1 => td σ H1 fun x H2 => ty σ H2 fun y H3 => ∃ a H4, x = .ref a ∧ DPut H3 a y v H4 ∧ D.nx σ H4
section
variable {X : Cx} {o i e value : Expr} {pos pos' tpos : Pos} {td ty tv : TE}
theorem zrY (hu : X.A.units + 1 < cLine) (ho : PE X o td) (hi : PE X i ty) (hv : PE X value tv) (hs : swapsWith value (some (.Subscript o i pos')) pos.line X.env = pure false) :
    PS X (.Assign [.Subscript o i pos'] value pos) (zxt td ty tv) := by
  intro pins s σ H D I h
  refine wpAny_Assign_Subscript (thn (hv pins s σ H _ I h) fun r s1 ⟨v, H1, I1, rv, q1⟩ => thn (ho pins s1 σ H1 _ I1 q1) fun u s2 ⟨x, H2, I2, rx, q2⟩ => thn (hi pins s2 σ H2 _ I2 q2) fun iv s3 ⟨y, H3, I3, ry, a, H4, ex, g, q3⟩ => ?_) hs
  subst ex
  obtain rfl : u = Value.ref a := rx
  exact znw hu I3 g ry rv fun s4 I4 => ⟨σ, H4, I4, q3⟩
end
theorem zpI {P : Program} {w : World} {H : Hp} (h : Heap) (hb : sysModules < h.objs.size) : ObjOk P w H (h.push { cls := .type "dict", data := .dict #[] }) h.objs.size (.dK []) :=
  ⟨Nat.zero_le _, beq_eq_false_iff_ne.mpr (Ne.symm (Nat.ne_of_lt hb)), [], .nil, Heap.DictOf.new h⟩
theorem zlf {P : Program} {w : World} {H : Hp} (h : Heap) (hb : sysModules < h.objs.size) : ObjOk P w H (h.push { cls := .type "dict", data := .dict #[] }) h.objs.size (.dT []) :=
  ⟨Nat.zero_le _, beq_eq_false_iff_ne.mpr (Ne.symm (Nat.ne_of_lt hb)), [], .nil, _, #[], 0, Heap.get?_push_size _ rfl, ⟨rfl, rfl, rfl⟩, rfl, rfl, List.nodup_nil⟩
noncomputable def zt2 : TE := fun _ H Q => ∀ p, H p = none → Q (.ref p) (upd H p (.dK []))
noncomputable def zt3 : TE := fun _ H Q => ∀ p, H p = none → Q (.ref p) (upd H p (.dT []))
section
variable {X : Cx} {pos : Pos}
theorem zlg : PE X (.Dict [] [] pos) zt2 := fun pins s σ H Q I h =>
  wpAny_Dict_empty ⟨.ref s.heap.objs.size, _, I.laid (a := s.heap.objs.size) (o := .dK []) (t' := s.toks) (fun _ _ q => Heap.get?_push_of_some _ q) (Nat.le_refl _) (zpI s.heap I.big), rfl, h _ (I.hok.fresh (Nat.le_refl _))⟩
theorem zlh : PE X (.Dict [] [] pos) zt3 := fun pins s σ H Q I h =>
  wpAny_Dict_empty ⟨.ref s.heap.objs.size, _, I.laid (a := s.heap.objs.size) (o := .dT []) (t' := s.toks) (fun _ _ q => Heap.get?_push_of_some _ q) (Nat.le_refl _) (zlf s.heap I.big), rfl, h _ (I.hok.fresh (Nat.le_refl _))⟩
end
end L2
namespace Att
open PySem PySem.W PySem.Calls PyProof.Rows
theorem zfL {P : Params} {h : Heap} : ∀ (ns : List Int) (vs : List Value), WellAll P h vs (ns.map WData.int) → IntsAre vs ns := by
  intro ns
  induction ns with
  | nil =>
    intro vs w
    rw [List.map_nil] at w
    cases w
    exact .nil
  | cons n ns ih =>
    intro vs w
    rw [List.map_cons] at w
    cases w with
    | cons a b =>
      cases a
      exact .cons _ _ (ih _ b)
theorem znx {l : OpenLaw} {n : Nat} (hn : l.most = some n) {P : Params} {h : Heap} {args : List WData} {vals : List Value}
    (hpre : l.row.toRowW.claim.pre args = true) (hwl : WellAll P h vals args) :
    ∃ a vs ns, vals = [Value.ref a] ∧ args = [WData.list (ns.map WData.int)] ∧ h.get? a = some { cls := .type "list", data := .seq vs.toArray } ∧ IntsAre vs ns ∧ ns.length ≤ n := by
  have hsh : WShape.hasAll [] args [.list .int] = true := (pre_splitW hpre).1
  have hc : l.pre.holds [] { args := args } = true := (pre_splitW hpre).2
  obtain ⟨d, r, rfl, h1, h2⟩ := hasAllW_cons hsh
  obtain rfl := hasAllW_nil h2
  obtain ⟨xs, rfl, h3⟩ := hasW_list h1
  obtain ⟨ns, rfl⟩ := items_int h3
  have hlen : ns.length ≤ n := by
    unfold OpenLaw.pre at hc
    have h4 : (WTm.not (.lt (.lit (.int (n : Int))) (.len (.arg 0)))).holds [] { args := [.list (ns.map .int)] } = true := by
      have h4 := (holds_andW hc).1
      rw [hn] at h4
      exact h4
    have h5 := condW_of h4 (w_not (w_lt w_lit (w_len_list (w_arg rfl))))
    rw [List.length_map] at h5
    refine Nat.le_of_not_lt fun q => ?_
    have q' : (n : Int) < ((ns.length : Nat) : Int) := by omega
    first
      | (rw [decide_eq_true q'] at h5; exact absurd h5 (by decide))
      | (simp at h5; omega)
  cases hwl with
  | cons w1 w2 =>
    cases w2
    cases w1 with
    | list ho hall => exact ⟨_, _, ns, rfl, rfl, ho, zfL ns _ hall, hlen⟩
theorem zny (l : OpenLaw) (args : List WData) : l.row.toRowW.claim.post args (.bool true) args = true :=
  postW_of (r := l.row.toRowW) (X := (true == true))
    (show WShape.has [] (.bool true) .bool = true by first | rfl | decide | simp [WShape.has, WShape.arms, WShape.armsAll])
    (show (WTm.eq .res (.lit (.bool true))).value [] { args := args, res := some (.bool true), after := args } = some (.bool (true == true)) from w_eq_bool (w_res rfl) w_lit) rfl
theorem attach_call {l : OpenLaw} {n : Nat} {q : Program} {loose : List Str} {XP : (Str → Option Value) → Heap → Prop} {YP : World → Heap → Prop} {d : DefRec}
    (hn : l.most = some n) (hdf : d.params.defaults = [])
    (call : ∀ (w : World) (s₀ s₁ : Shared) (mg mb : Str → Option Value) (fa : Addr) (o : Obj) (pm cd doc : Value) (a : Addr) (vs : List Value) (ns : List Int),
      Ground q loose [] XP w s₀ mg mb s₁.heap → YP w s₁.heap →
      s₁.heap.get? fa = some o → o.data = .func (docDef d.name d.params d.body d.scope pm cd doc) → s₁.heap.CodeRec cd d.name → mg d.name = some (.ref fa) →
      s₁.heap.get? a = some { cls := .type "list", data := .seq vs.toArray } → IntsAre vs ns → ns.length ≤ n → s₁.gens = #[] →
      codeAny (model l.prog w) callerA (.call (.ref fa) ⟨[.ref a], []⟩) (fun r s' => r = .ok (.ret (.bool true)) ∧ OldK s₁.heap s'.heap ∧ s'.os = s₁.os ∧ AllBare s'.gens) s₁) :
    WalkO q loose XP YP l.row.toRowW d [] (fun f vs => PySem.call f vs) := by
  intro w s₀ s₁ mg mb G Y fa o pm cd doc dV kV ho hd hcd hD hmg hg args vals as hpre hlay hrd hwl hlo
  obtain rfl : dV = .none := Dflts.none hD hdf
  obtain rfl : kV = .none := Dflts.noKw hD
  obtain ⟨a, vs, ns, rfl, rfl, hobj, hints, hlen⟩ := znx hn hpre hwl
  refine enter_call (codeAny_mono (call w s₀ s₁ mg mb fa o pm cd doc a vs ns G Y ho (fd_plain hd) hcd hmg hobj hints hlen hg) fun r s' hq => ?_)
  obtain ⟨rfl, h2, h3, h4⟩ := hq
  exact ⟨.inl ⟨.bool true, .bool true, [], rfl, fun _ => rfl, .bool true, zny l _, fun _ => ⟨List.Pairwise.nil, fun _ hm => (nomatch hm)⟩⟩, h2, h3, h4⟩
end Att
namespace L2
open PySem PySem.Spec PyProof.Rows
theorem zfM : ∀ {vs : List Value} {ns : List Int}, IntsAre vs ns → Vals (ns.map V.int) vs
  | _, _, .nil => .nil
  | _, _, .cons n t h => .cons ⟨t, rfl⟩ (zfM h)
noncomputable def zwf (H : Hp) : Prop := ∀ b, H b = none ∨ ∃ o xs, H b = some (.frz o (.lst xs))
theorem zpJ {P : Program} {w : World} {K : PySem.W.Frag} {mg mb : Str → Option Value} {CX : CXT} {k : Nat} {fa a : Addr} {fd : FuncData} {x : Str} {sp : Sp} {s₁ : Shared} {vs : List Value} {ns : List Int}
    (KX : K.In s₁.heap) (hns : s₁.heap.Ns mainGlobals mg) (hb : s₁.heap.Ns builtinsNs mb) (hbb : ∀ x : Str, x ≠ "__name__" → mb x = bootBuiltins x) (hlim : s₁.heap.NoLimit) (hg : s₁.gens = #[])
    (ha : s₁.heap.get? a = some { cls := .type "list", data := .seq vs.toArray }) (hi : IntsAre vs ns) (hl : ns.length ≤ sizeLine) (hr : Room k callerA)
    (F : ∀ base : Heap, K.In base → base.Ns mainGlobals mg → FnOk P w K mg base CX k fa fd [x] sp) (hbind : ∀ (s : Shared) (u : Value), BindsTo s fd ⟨[u], []⟩ [(x, u)])
    (hsp : ∀ H : Hp, zwf H → SqL K H a (ns.map V.int) → sp [.ref a] H (fun v _ => v = .bl true) fun _ _ _ => False)
    (hCX : ∀ H e s', CX [] H s₁ (fun _ _ _ => False) e s' → False) :
    codeAny (model P w) callerA (.call (.ref fa) ⟨[.ref a], []⟩) (fun r s' => r = .ok (.ret (.bool true)) ∧ OldK s₁.heap s'.heap ∧ s'.os = s₁.os ∧ AllBare s'.gens) s₁ := by
  have rv := zfM hi
  have lenV := hi.length
  have core : ∀ H : Hp, zwf H → SqL K H a (ns.map V.int) → HOk P w H s₁.heap → (∀ b, H b ≠ none → b = a) → (H a ≠ none → K.lookup a = none) →
      codeAny (model P w) callerA (.call (.ref fa) ⟨[.ref a], []⟩) (fun r s' => r = .ok (.ret (.bool true)) ∧ OldK s₁.heap s'.heap ∧ s'.os = s₁.os ∧ AllBare s'.gens) s₁ := by
    intro H hO hS hok hA hK
    have base_of : ∀ {b : Addr} {o : Obj}, s₁.heap.get? b = some o → H b = none → (zpx s₁.heap H).get? b = some o := fun e n => zpy e n
    have noA : ∀ {b : Addr} {o : Obj} {es : Array DictEntry} {ep : Nat}, s₁.heap.get? b = some o → o.data = .dict es ep → H b = none := fun {b o es ep} e d => by
      cases q : H b with
      | none => rfl
      | some u =>
        have e' : b = a := hA b (by rw [q]; simp)
        subst e'
        rw [ha] at e; cases e
        have d' : Data.seq vs.toArray _ = Data.dict es ep := d
        cases d'
    have nsK : ∀ {b : Addr} {m : Str → Option Value}, s₁.heap.Ns b m → (zpx s₁.heap H).Ns b m := fun {b m} ⟨o, es, ep, e, d, r⟩ => ⟨o, es, ep, base_of e (noA e d), d, r⟩
    have hKb : K.In (zpx s₁.heap H) := fun b o e => base_of (KX b o e) (by
      cases q : H b with
      | none => rfl
      | some u =>
        have e' : b = a := hA b (by rw [q]; simp)
        subst e'
        rw [hK (by rw [q]; simp)] at e; cases e)
    have hM : Mod K mg (zpx s₁.heap H) := ⟨hKb, nsK hns, ⟨mb, nsK hb, hbb⟩, let ⟨mc, h1, h2⟩ := hlim; ⟨mc, nsK h1, h2⟩⟩
    have e0 : Env0 P w K mg (zpx s₁.heap H) callerA [] s₁ H := ⟨rfl, hM, fun b o e => zrD e, Nat.le_of_eq (znd _ _), trivial, fun b hb => absurd (show b ∈ ([] : List Addr) from hb) (by simp), hok, .of_eq hg⟩
    refine codeAny_mono ((F _ hKb (nsK hns)).run callerA [] s₁ H ⟨[.ref a], []⟩ [.ref a] [.ref a] _ _ hr e0 (hbind s₁ (.ref a)) (.cons rfl .nil) (hsp H hO hS)) fun r s' h => ?_
    cases r with
    | error e => exact (hCX H e s' h).elim
    | ok fl =>
      cases fl with
      | next => exact False.elim h
      | brk => exact False.elim h
      | cont => exact False.elim h
      | ret u =>
        obtain ⟨v, H', os, bare, un, hok', r', q⟩ := h
        have q' : v = .bl true := q
        subst q'
        obtain rfl : u = Value.bool true := r'
        refine ⟨rfl, OldK.of_keep fun b o e => ?_, os, bare⟩
        cases q : H b with
        | none => exact un.keep b o e q (by intro z; exact absurd (show b ∈ ([] : List Addr) from z) (by simp)) (by simp)
        | some u =>
          rcases hO b with z | ⟨ob, xs, z⟩
          · rw [q] at z; cases z
          · have z2 := un.frzs b ob _ z
            obtain ⟨e1, _⟩ := hok b _ z
            obtain ⟨e2, _⟩ := hok' b _ z2
            rw [e] at e1; cases e1
            exact e2
  cases hk : K.lookup a with
  | some o =>
    have e := KX a o hk
    rw [ha] at e
    cases e
    refine core (fun _ => none) (fun _ => .inl rfl) (.inr ⟨_, vs.toArray, _, hk, rfl, rfl, rfl, by rw [List.size_toArray, lenV]; exact hl, by simpa using rv⟩) (fun b u z => by have z' : (none : Option HO) = some u := z; cases z') (fun b z => absurd rfl z) fun z => absurd rfl z
  | none =>
    refine core (fun b => if b = a then some (.frz { cls := .type "list", data := .seq vs.toArray } (.lst (ns.map V.int))) else none) (fun b => ?_) (.inl (.inr ⟨{ cls := .type "list", data := .seq vs.toArray }, if_pos rfl⟩)) (fun b u z => ?_) (fun b z => ?_) fun _ => hk
    · by_cases hb : b = a
      · exact .inr ⟨_, _, if_pos hb⟩
      · exact .inl (if_neg hb)
    · by_cases hb : b = a
      · have z' := (if_pos hb).symm.trans z
        cases z'
        subst hb
        exact ⟨ha, by rw [List.length_map]; exact hl, vs, _, rv, ha⟩
      · have z' := (if_neg hb).symm.trans z
        cases z'
    · by_cases hb : b = a
      · exact hb
      · exact absurd (if_neg hb) z
end L2
namespace L2
open PySem PySem.Spec PyProof.Rows
theorem zrZ {l : PySem.W.OpenLaw} {n k : Nat} {q : Program} {loose : List Str} {XP : (Str → Option Value) → Heap → Prop} {YP : World → Heap → Prop} {d : DefRec} {K : Params → PySem.W.Frag} {CX : World → CXT} {sp : World → Sp} {x : Str}
    (hn : l.most = some n) (hn2 : n ≤ sizeLine) (hdf : d.params.defaults = []) (hr : Room k callerA)
    (hY : ∀ (w : World) (h : Heap), YP w h → (K w.params).In h)
    (F : ∀ (w : World) (mg : Str → Option Value) (fa : Addr) (h : Heap), (K w.params).In h → h.Ns mainGlobals mg → mg d.name = some (.ref fa) →
      ∃ fd : FuncData, (∀ (s : Shared) (u : Value), BindsTo s fd ⟨[u], []⟩ [(x, u)]) ∧
        ∀ base : Heap, (K w.params).In base → base.Ns mainGlobals mg → FnOk l.prog w (K w.params) mg base (CX w) k fa fd [x] (sp w))
    (hsp : ∀ (w : World) (H : Hp) (a : Addr) (ns : List Int), ns.length ≤ n → zwf H → SqL (K w.params) H a (ns.map V.int) → sp w [.ref a] H (fun v _ => v = .bl true) fun _ _ _ => False)
    (hCX : ∀ (w : World) (H : Hp) (s : Shared) (e : Value) (s' : Shared), CX w [] H s (fun _ _ _ => False) e s' → False) :
    PySem.W.WalkO q loose XP YP l.row.toRowW d [] (fun f vs => PySem.call f vs) := by
  refine Att.attach_call hn hdf fun w s₀ s₁ mg mb fa o pm cd doc a vs ns G Y ho hd hcd hmg hobj hints hlen hg => ?_
  have KX := hY w _ Y
  obtain ⟨fd, hb, hF⟩ := F w mg fa _ KX G.T.g hmg
  exact zpJ KX G.T.g G.T.b G.T.builtins G.T.nolimit hg hobj hints (Nat.le_trans hlen hn2) hr hF hb (fun H hO hS => hsp w H a ns hlen hO hS) fun H e s' => hCX w H s₁ e s'
theorem zpK {l : PySem.W.OpenLaw} {n k : Nat} {q : Program} {loose : List Str} {XP : (Str → Option Value) → Heap → Prop} {YP : World → Heap → Prop} {d : DefRec} {K : Params → PySem.W.Frag} {CX : CXT} {sp : PySem.W.Frag → Sp} {x : Str}
    (hn : l.most = some n) (hn2 : n ≤ sizeLine) (hdf : d.params.defaults = []) (hr : Room k callerA)
    (hY : ∀ (w : World) (h : Heap), YP w h → (K w.params).In h)
    (F : ∀ (w : World) (mg : Str → Option Value) (fa : Addr) (h : Heap), (K w.params).In h → h.Ns mainGlobals mg → mg d.name = some (.ref fa) →
      ∃ fd : FuncData, (∀ (s : Shared) (u : Value), BindsTo s fd ⟨[u], []⟩ [(x, u)]) ∧
        ∀ base : Heap, (K w.params).In base → base.Ns mainGlobals mg → FnOk l.prog w (K w.params) mg base CX k fa fd [x] (sp (K w.params)))
    (hsp : ∀ (K : PySem.W.Frag) (H : Hp) (a : Addr) (ns : List Int), ns.length ≤ n → zwf H → SqL K H a (ns.map V.int) → sp K [.ref a] H (fun v _ => v = .bl true) fun _ _ _ => False)
    (hCX : ∀ (H : Hp) (s : Shared) (e : Value) (s' : Shared), CX [] H s (fun _ _ _ => False) e s' → False) :
    PySem.W.WalkO q loose XP YP l.row.toRowW d [] (fun f vs => PySem.call f vs) :=
  zrZ (K := K) (CX := fun _ => CX) (sp := fun w => sp (K w.params)) hn hn2 hdf hr hY F (fun w H a ns h1 h2 h3 => hsp (K w.params) H a ns h1 h2 h3) fun _ H s e s' => hCX H s e s'
end L2
namespace L2
open PySem PySem.Spec PyProof.Rows
noncomputable def zan (s : Stmt) : Arguments := match s with
  | .FunctionDef _ a _ _ _ _ _ _ _ _ => a
  | _ => { posonlyargs := [], args := [], vararg := none, kwonlyargs := [], kw_defaults := [], kwarg := none, defaults := [] }
noncomputable def zag (s : Stmt) : List Stmt := match s with
  | .FunctionDef _ _ b _ _ _ _ _ _ _ => b
  | _ => []
noncomputable def zaa (s : Stmt) : Scope := match s with
  | .FunctionDef _ _ _ _ _ _ sc _ _ _ => sc
  | _ => { kind := .function, names := [], isGenerator := false, isCoroutine := false }
noncomputable abbrev CX0 : CXT := fun _ _ _ _ _ _ => False
noncomputable abbrev E0 : XK := fun _ _ _ => False
theorem zt4 {X : Cx} : znl CX0 X E0 := fun _ _ _ _ _ _ _ h => h.elim
structure Fun (K : PySem.W.Frag) (x qual : Str) (st : Stmt) (f : Addr) (fd : FuncData) : Prop where
  ex : ∃ (oc : Value) (od : Option Addr) (kV doc pm : Value) (an : Option Addr) (cdv ct : Value) (osl : Array (Option Value)),
    fd = PySem.W.fnOf x qual (zan st) (zag st) (zaa st) .none kV doc pm an cdv ct ∧ K.lookup f = some ⟨oc, od, .func fd, osl⟩ ∧ PySem.W.codeIn K cdv qual = true
  kp : PySem.W.keepIn K (.ref f) = true
section
variable {P : Program} {w : World} {K : PySem.W.Frag} {mg : Str → Option Value} {base : Heap}
theorem Fun.ok {x qual : Str} {st : Stmt} {f : Addr} {fd : FuncData} {N ps : List Str} {k : Nat} {sp : Sp} (F : Fun K x qual st f fd) (S : FnScope N ps (zaa st)) (len : ∀ vs H Q E, sp vs H Q E → vs.length = ps.length)
    (hbody : ∀ (cdv : Value) (A : Around) (outer : List Env) (s : Shared) (H : Hp) (vs : List V) (Q : VK) (E : XK), Room k (A.deeper (envOfC qual (zaa st) s.heap.objs.size f cdv)) → sp vs H Q E →
      ∃ t, PSs (zcM CX0 P w K mg base N qual (zaa st) f cdv A outer s H E).nox (zag st) t ∧ t { nx := fun _ H' => Q .non H', rt := Q } (zd4 N vs) H) : FnOk P w K mg base CX0 (k + 1) f fd ps sp := by
  obtain ⟨oc, od, kV, doc, pm, an, cdv, ct, osl, rfl, lk, hcd⟩ := F.ex
  refine zxo lk hcd S len fun A outer s H vs Q E hr hsp => ?_
  obtain ⟨t, h, q⟩ := hbody cdv A outer s H vs Q E hr hsp
  exact ⟨t, h.nox, q⟩
theorem Fun.binds {x qual : Str} {st : Stmt} {f : Addr} {fd : FuncData} {ps : List Str} (F : Fun K x qual st f fd)
    (h : ∀ (kV doc pm : Value) (an : Option Addr) (cdv ct : Value) (us : List Value), us.length = ps.length → bindArgs (PySem.W.fnOf x qual (zan st) (zag st) (zaa st) .none kV doc pm an cdv ct) ⟨us, []⟩ = pure (ps.zip us)) : Binds K fd ps [] := by
  obtain ⟨oc, od, kV, doc, pm, an, cdv, ct, osl, rfl, lk, hcd⟩ := F.ex
  exact .all (h kV doc pm an cdv ct)
theorem zav {x qual : Str} {st : Stmt} {f : Addr} {oc : Value} {od an : Option Addr} {osl : Array (Option Value)} {kV doc pm cdv ct : Value} (l : K.lookup f = some ⟨oc, od, .func (PySem.W.fnOf x qual (zan st) (zag st) (zaa st) .none kV doc pm an cdv ct), osl⟩)
    (c : PySem.W.codeIn K cdv qual = true) (k : PySem.W.keepIn K (.ref f) = true) : Fun K x qual st f (PySem.W.fnOf x qual (zan st) (zag st) (zaa st) .none kV doc pm an cdv ct) := ⟨⟨oc, od, kV, doc, pm, an, cdv, ct, osl, rfl, l, c⟩, k⟩
end
theorem zc9 {n : Nat} (h : n ≤ 1000) : n < sizeLine := Nat.lt_of_le_of_lt h (by decide)
theorem zxu {A B : Prop} (h : B) : if false = true then A else B := by
  rw [if_neg Bool.false_ne_true]
  exact h
theorem zwg {A B : Prop} (h : A) : if true = true then A else B := by
  rw [if_pos rfl]
  exact h
noncomputable def Same (H H' : Hp) : Prop := ∀ b o, H b = some o → H' b = some o
theorem Same.refl (H : Hp) : Same H H := fun _ _ h => h
theorem Same.trans {H H1 H2 : Hp} (a : Same H H1) (b : Same H1 H2) : Same H H2 := fun c o h => b c o (a c o h)
theorem Same.free {H H' : Hp} (e : Same H H') {l : Addr} (h : H' l = Option.none) : H l = Option.none := by
  cases q : H l with
  | none => rfl
  | some o =>
    rw [e l o q] at h
    cases h
theorem Same.seq {K : PySem.W.Frag} {H H' : Hp} {a : Addr} {xs : List V} (e : Same H H') (h : SqL K H a xs) : SqL K H' a xs := by
  rcases h with (h | ⟨o, h⟩) | h
  · exact .inl (.inl (e _ _ h))
  · exact .inl (.inr ⟨o, e _ _ h⟩)
  · exact .inr h
end L2
namespace L2.LW
open PySem
set_option genSizeOf false
inductive D where
  | int (i : Int) | bl (b : Bool) | non | str (x : Str) | tup (l : List D) | lst (l : List D)
  | dct (t : Bool) (ks vs : List D)
mutual
noncomputable def eqD : D → D → Bool
  | .int a, .int b => a == b
  | .bl a, .bl b => a == b
  | .int a, .bl b => a == (if b then 1 else 0)
  | .bl a, .int b => (if a then 1 else 0) == b
  | .non, .non => true
  | .str a, .str b => a == b
  | .tup xs, .tup ys => zli xs ys
  | .lst xs, .lst ys => zli xs ys
  | _, _ => false
noncomputable def zli : List D → List D → Bool
  | [], [] => true
  | x :: xs, y :: ys => eqD x y && zli xs ys
  | _, _ => false
end
mutual
noncomputable def plain : D → Bool
  | .lst _ => false
  | .dct _ _ _ => false
  | .tup l => zbA l
  | _ => true
noncomputable def zbA : List D → Bool
  | [] => true
  | x :: xs => plain x && zbA xs
end
inductive SV where
  | val (d : D) | obj (o : Bool) (d : D) | io (d : D)
noncomputable abbrev SV.lis (o : Bool) (ds : List D) : SV := .obj o (.lst ds)
noncomputable def toD : SV → Option D
  | .val d => some d
  | .obj true d => some d
  | _ => none
noncomputable def zbM : SV → D
  | .val d => d
  | .obj _ d => d
  | .io d => d
noncomputable def SV.lent : SV → Bool
  | .val _ => false
  | .obj true _ => false
  | _ => true
noncomputable def zc3 : D → Bool
  | .lst ds => zbA ds
  | .dct _ _ vs => zbA vs
  | d => plain d
noncomputable def SV.plain : SV → Bool
  | .val d => LW.plain d
  | .obj _ d => zc3 d
  | .io _ => false
noncomputable abbrev Env := List (Option SV)
inductive Ty where
  | bool | int | str | list | tuple
  deriving DecidableEq
inductive Prim where
  | add | sub | mul | fdiv | mod | neg | eq | ne | lt | le | gt | ge | isN | notN | inn | nin | idx | len | abs | min2 | max2 | sorted | skeys | cutT | cutF | addT | mulT | addS | join0 | splitN | eqS | neS | toList | toTup | all | inst (t : Ty) | cutTo | maxL | minL | sumL | intOf
set_option genInjectivity false
mutual
inductive E where
  | int (i : Int) | bl (b : Bool) | non | str (x : Str)
  | var (i : Nat)
  | prim (p : Prim) (es : Es)
  | tup (es : Es) | lst (es : Es)
  | and (a b : E) | or (a b : E) | not (a : E)
  | chain (p q : Prim) (a b c : E)
  | ite (c a b : E)
  | call (f : Nat) (es : Es)
  | comp (rng : Bool) (src : Es) (cond elt : E)
  | dnew (t : Bool) | done (t : Bool) (k v : E)
inductive Es where
  | nil | cons (e : E) (es : Es)
end
set_option genInjectivity true
noncomputable def ziP : Ty → D → Bool
  | .bool, .bl _ => true
  | .int, .int _ => true
  | .int, .bl _ => true
  | .str, .str _ => true
  | .list, .lst _ => true
  | .tuple, .tup _ => true
  | _, _ => false
noncomputable def ints? : List D → Option (List Int)
  | [] => some []
  | .int i :: r => (ints? r).map (i :: ·)
  | _ => none
noncomputable def lexLt : List Int → List Int → Bool
  | _, [] => false
  | [], _ :: _ => true
  | x :: xs, y :: ys => if x = y then lexLt xs ys else decide (x < y)
noncomputable def ixN (n : Nat) (i : Int) : Option Nat := if 0 ≤ i then (if i < n then some i.toNat else none) else if -(n : Int) ≤ i then some (i + n).toNat else none
noncomputable def atI {α : Type} (xs : List α) (i : Int) : Option α := (ixN xs.length i).bind fun j => xs[j]?
noncomputable def bools? : List D → Option (List Bool)
  | [] => some []
  | .bl i :: r => (bools? r).map (i :: ·)
  | _ => none
noncomputable def line : Nat := 16777216
noncomputable def zgC : D → Option (List D)
  | .tup l => some l
  | .lst l => some l
  | _ => none
noncomputable def tups? : List D → Option (List (List Int))
  | [] => some []
  | .tup l :: r => (ints? l).bind fun x => (tups? r).map (x :: ·)
  | _ => none
noncomputable def zr0 (x : List Int) : List (List Int) → List (List Int)
  | [] => [x]
  | y :: r => if lexLt x y then x :: y :: r else y :: zr0 x r
noncomputable def zgD : List (List Int) → List (List Int)
  | [] => []
  | x :: r => zr0 x (zgD r)
noncomputable def zmt (l : List Int) : List Int := l.mergeSort (fun a b => decide (a ≤ b))
noncomputable def zb5 : Nat → D → Bool
  | _, .int _ => true
  | _, .bl _ => true
  | _, .non => true
  | _, .str _ => false
  | 0, _ => false
  | n + 1, .tup l => l.all (zb5 n)
  | n + 1, .lst l => l.all (zb5 n)
  | _ + 1, .dct _ _ _ => false
noncomputable def zbS : Bool → D → Bool
  | false, .int _ => true
  | true, .tup l => (ints? l).isSome
  | _, _ => false
noncomputable def kix (ks : List D) (k : D) : Option Nat := ks.findIdx? fun x => eqD x k
noncomputable def zr1 (ks vs : List D) (k : D) : Option D := (kix ks k).bind fun i => vs[i]?
noncomputable def zhx (t : Bool) (ks vs : List D) (k v : D) : D := if (kix ks k).isSome then .dct t ks (List.zipWith (fun k' v' => if eqD k' k then v else v') ks vs) else .dct t (ks ++ [k]) (vs ++ [v])
noncomputable def zcn (r : Int) : Option SV := some (.val (.int r))
noncomputable def zeX (r : Bool) : Option SV := some (.val (.bl r))
noncomputable def zwh : List D → Option SV
  | [.int a, .int b] => zcn (a + b)
  | [.lst a, .lst b] => if a.length + b.length ≤ line then some (SV.obj true (.lst (a ++ b))) else none
  | _ => none
noncomputable def zxv : List D → Option SV
  | [.int a, .int b] => zcn (a - b)
  | _ => none
noncomputable def ztk : List D → Option SV
  | [.int a, .int b] => if (-(2 ^ 64) < a ∧ a < 2 ^ 64) ∨ (-(2 ^ 64) < b ∧ b < 2 ^ 64) then zcn (a * b) else none
  | _ => none
noncomputable def zpL : List D → Option SV
  | [.int a, .int b] => if 0 < b ∧ b < 1073741824 then zcn (a / b) else none
  | _ => none
noncomputable def zwi : List D → Option SV
  | [.int a, .int b] => if 0 < b then zcn (a % b) else none
  | _ => none
noncomputable def zzp : List D → Option SV
  | [.int a] => zcn (-a)
  | _ => none
noncomputable def pEq : List D → Option SV
  | [a, b] => if zb5 8 a && zb5 8 b then zeX (eqD a b) else none
  | _ => none
noncomputable def pNe : List D → Option SV
  | [a, b] => if zb5 8 a && zb5 8 b then zeX (!eqD a b) else none
  | _ => none
noncomputable def pLt : List D → Option SV
  | [.int a, .int b] => zeX (decide (a < b))
  | [.tup a, .tup b] => (ints? a).bind fun x => (ints? b).bind fun y => zeX (lexLt x y)
  | _ => none
noncomputable def pLe : List D → Option SV
  | [.int a, .int b] => zeX (decide (a ≤ b))
  | _ => none
noncomputable def pGt : List D → Option SV
  | [.int a, .int b] => zeX (decide (b < a))
  | _ => none
noncomputable def pGe : List D → Option SV
  | [.int a, .int b] => zeX (decide (b ≤ a))
  | _ => none
noncomputable def zt5 : D → Bool
  | .non => true
  | _ => false
noncomputable def zyC : List D → Option SV
  | [d] => zeX (zt5 d)
  | _ => none
noncomputable def zt6 : List D → Option SV
  | [d] => zeX (!zt5 d)
  | _ => none
noncomputable def pIn : List D → Option SV
  | [x, .dct t ks _] => if zbS t x then zeX (kix ks x).isSome else none
  | [x, .tup l] => if zb5 8 x && l.all (zb5 8) then zeX (l.any fun y => eqD y x) else none
  | [x, .lst l] => if zb5 8 x && l.all (zb5 8) then zeX (l.any fun y => eqD y x) else none
  | _ => none
noncomputable def zqW : List D → Option SV
  | [x, .dct t ks _] => if zbS t x then zeX (!(kix ks x).isSome) else none
  | [x, .tup l] => if zb5 8 x && l.all (zb5 8) then zeX (!l.any fun y => eqD y x) else none
  | [x, .lst l] => if zb5 8 x && l.all (zb5 8) then zeX (!l.any fun y => eqD y x) else none
  | _ => none
noncomputable def zwj : List D → Option SV
  | [.dct t ks vs, k] => if zbS t k then (zr1 ks vs k).map .val else none
  | [.tup l, .int i] => (atI l i).map .val
  | [.lst l, .int i] => (atI l i).map .val
  | _ => none
noncomputable def zxw : List D → Option SV
  | [.tup l] => zcn l.length
  | [.lst l] => zcn l.length
  | _ => none
noncomputable def zxx : List D → Option SV
  | [.int i] => zcn (if i < 0 then -i else i)
  | _ => none
noncomputable def zr2 : List D → Option SV
  | [.int i, .int j] => zcn (if j < i then j else i)
  | _ => none
noncomputable def zr3 : List D → Option SV
  | [.int i, .int j] => zcn (if j > i then j else i)
  | _ => none
noncomputable def zhy (l : List D) : Option SV := match ints? l with
  | some ns => if ns.length < 64 then some (.obj true (.lst ((zmt ns).map .int))) else none
  | none => (tups? l).bind fun ks => if ks.length < 64 ∧ ks.Nodup ∧ ks.all (fun k => !k.isEmpty) = true then some (.obj true (.lst ((zgD ks).map fun k => .tup (k.map .int)))) else none
noncomputable def zkm : List D → Option SV
  | [.lst l] => zhy l
  | _ => none
noncomputable def zfN (l : List D) : Option SV := (tups? l).bind fun ks => if ks.length < 64 ∧ ks.Nodup ∧ ks.all (fun k => !k.isEmpty) = true then some (.obj true (.lst ((zgD ks).map fun k => .tup (k.map .int)))) else none
noncomputable def ziQ : List D → Option SV
  | [.dct true ks _] => zfN ks
  | _ => none
noncomputable def znz : List D → Option SV
  | [.tup l, .int k] => if 0 ≤ k ∧ k < l.length then some (.val (.tup (l.take k.toNat))) else none
  | _ => none
noncomputable def znA : List D → Option SV
  | [.tup l, .int k] => if 0 < k ∧ 0 < l.length then some (.val (.tup (l.drop k.toNat))) else none
  | _ => none
noncomputable def znB : List D → Option SV
  | [.tup a, .tup b] => if a.length + b.length ≤ 10000000 then some (.val (.tup (a ++ b))) else none
  | _ => none
noncomputable def zxy : List D → Option SV
  | [.tup l, .int k] => if k = 2 ∧ l.length ≤ 1000 ∧ l ≠ [] then some (.val (.tup (l ++ l))) else none
  | _ => none
noncomputable def zxz : List D → Option SV
  | [.str a, .str b] => if a.length + b.length ≤ 10000000 then some (.val (.str (a ++ b))) else none
  | _ => none
noncomputable def strs? : List D → Option (List Str)
  | [] => some []
  | .str x :: r => (strs? r).map (x :: ·)
  | _ => none
noncomputable def zxA (ys : List Str) : Str := ⟨(ys.flatMap fun y => y.cps.toList).toArray⟩
noncomputable def zt7 : List D → Option SV
  | [.lst l] => (strs? l).bind fun ys => if (ys.map (·.length)).sum ≤ 10000000 then some (.val (.str (zxA ys))) else none
  | _ => none
noncomputable def zxB (c : Nat) : List Nat → List (List Nat)
  | [] => [[]]
  | a :: r => if a = c then [] :: zxB c r else match zxB c r with
    | p :: ps => (a :: p) :: ps
    | [] => [[a]]
noncomputable def zt8 (x : Str) : List Str := (zxB 10 x.cps.toList).map fun l => ⟨l.toArray⟩
noncomputable def zr4 : List D → Option SV
  | [.str x] => if x.length ≤ 10000000 then some (.obj true (.lst ((zt8 x).map D.str))) else none
  | _ => none
noncomputable def zt9 (x : Str) : List D := x.cps.toList.map fun c => D.str ⟨#[c]⟩
noncomputable def zwk : List D → Option SV
  | [.str a, .str b] => some (.val (.bl (decide (a = b))))
  | _ => none
noncomputable def zyD : List D → Option SV
  | [.str a, .str b] => some (.val (.bl (!decide (a = b))))
  | _ => none
noncomputable def zr5 : List D → Option SV
  | [.tup l] => some (SV.obj true (.lst l))
  | [.lst l] => some (SV.obj true (.lst l))
  | _ => none
noncomputable def znC : List D → Option SV
  | [.tup l] => some (.val (.tup l))
  | [.lst l] => some (.val (.tup l))
  | _ => none
noncomputable def zwl : List D → Option SV
  | [.lst l] => (bools? l).bind fun bs => zeX (bs.all id)
  | _ => none
noncomputable def zua (t : Ty) : List D → Option SV
  | [d] => zeX (ziP t d)
  | _ => none
noncomputable def zlj : List D → Option SV
  | [.lst l, .int k] => if 0 ≤ k then some (SV.obj true (.lst (l.take k.toNat))) else none
  | _ => none
noncomputable def zpM : List D → Option SV
  | [.lst l] => (ints? l).bind fun ns => match ns with
    | [] => none
    | n :: r => zcn (r.foldl max n)
  | _ => none
noncomputable def zxC : List D → Option SV
  | [.lst l] => (ints? l).bind fun ns => match ns with
    | [] => none
    | n :: r => zcn (r.foldl min n)
  | _ => none
noncomputable def zpN : List D → Option SV
  | [.lst l] => (ints? l).bind fun ns => zcn ns.sum
  | [.tup l] => (ints? l).bind fun ns => zcn ns.sum
  | _ => none
noncomputable def zub : List D → Option SV
  | [.int i] => zcn i
  | [.bl b] => zcn (if b then 1 else 0)
  | _ => none
noncomputable def zal : Prim → List D → Option SV
  | .add => zwh | .sub => zxv | .mul => ztk | .fdiv => zpL | .mod => zwi | .neg => zzp | .eq => pEq | .ne => pNe | .lt => pLt | .le => pLe | .gt => pGt | .ge => pGe
  | .isN => zyC | .notN => zt6 | .inn => pIn | .nin => zqW | .idx => zwj | .len => zxw | .abs => zxx | .min2 => zr2 | .max2 => zr3
  | .sorted => zkm | .skeys => ziQ | .cutT => znz | .cutF => znA | .addT => znB | .mulT => zxy | .addS => zxz | .join0 => zt7 | .splitN => zr4 | .eqS => zwk | .neS => zyD | .toList => zr5 | .toTup => znC | .all => zwl | .inst t => zua t | .cutTo => zlj | .maxL => zpM | .minL => zxC | .sumL => zpN | .intOf => zub
noncomputable def zb0 : SV → Option Bool
  | .val (.bl b) => some b
  | .val (.int i) => some (i != 0)
  | .val .non => some false
  | .val (.tup l) => some (!l.isEmpty)
  | .val (.lst l) => some (!l.isEmpty)
  | .obj _ (.lst l) => some (!l.isEmpty)
  | _ => none
noncomputable def look (ρ : Env) (i : Nat) : Option SV := match ρ[i]? with
  | some (some (.val d)) => some (.val d)
  | some (some (.obj _ d)) => some (.obj false d)
  | some (some (.io d)) => some (.obj false d)
  | _ => none
noncomputable def free (ρ : Env) (i : Nat) : Bool := match ρ[i]? with
  | some (some (.io _)) => false
  | _ => true
noncomputable def SV.cell : SV → Option D
  | .obj true d => some d
  | .io d => some d
  | _ => none
noncomputable def SV.put : SV → D → SV
  | .io _, d => .io d
  | _, d => .obj true d
noncomputable def inR (j : Int) : Prop := -(2 ^ 62) ≤ j ∧ j < 2 ^ 62
noncomputable instance (j : Int) : Decidable (inR j) := by unfold inR; exact inferInstance
noncomputable def za0 : Bool → List SV → Option (List D)
  | false, [r] => zgC (zbM r)
  | true, [.val (.int n)] => if inR n then some ((List.range n.toNat).map fun (k : Nat) => D.int (0 + (k : Int))) else none
  | true, [.val (.int a), .val (.int b)] => if inR a ∧ inR b then some ((List.range (b - a).toNat).map fun (k : Nat) => D.int (a + (k : Int))) else none
  | _, _ => none
noncomputable def zdQ (test : D → Option Bool) (elt : D → Option SV) : List D → Option (List D)
  | [] => some []
  | d :: r => (test d).bind fun b => match b with
    | true => (elt d).bind fun x => (toD x).bind fun y => (zdQ test elt r).map (y :: ·)
    | false => zdQ test elt r
noncomputable def zfn (rs : List SV) (r : Option SV) : Option SV := r.bind fun x => if rs.any SV.lent && !x.plain then none else some x
noncomputable def ziR : List SV → Option (List D)
  | [] => some []
  | r :: rs => (toD r).bind fun d => (ziR rs).map (d :: ·)
mutual
noncomputable def evE (fn : Nat → List D → Option SV) : E → Env → Option SV
  | .int i, _ => some (.val (.int i))
  | .bl b, _ => some (.val (.bl b))
  | .non, _ => some (.val .non)
  | .str x, _ => some (.val (.str x))
  | .var i, ρ => look ρ i
  | .prim p es, ρ => (zcN fn es ρ).bind fun rs => zal p (rs.map zbM)
  | .tup es, ρ => (zcN fn es ρ).bind fun rs => (ziR rs).map fun ds => .val (.tup ds)
  | .lst es, ρ => (zcN fn es ρ).bind fun rs => (ziR rs).map fun ds => SV.obj true (.lst ds)
  | .and a b, ρ => (evE fn a ρ).bind fun r => match r with
    | .val (.bl true) => evE fn b ρ
    | .val (.bl false) => some (.val (.bl false))
    | _ => none
  | .or a b, ρ => (evE fn a ρ).bind fun r => match r with
    | .val (.bl true) => some (.val (.bl true))
    | .val (.bl false) => evE fn b ρ
    | _ => none
  | .not a, ρ => (evE fn a ρ).bind fun r => match r with
    | .val (.bl b) => some (.val (.bl (!b)))
    | _ => none
  | .chain p q a b c, ρ => (evE fn a ρ).bind fun x => (evE fn b ρ).bind fun y => (zal p [zbM x, zbM y]).bind fun z => match z with
    | .val (.bl true) => (evE fn c ρ).bind fun w => zal q [zbM y, zbM w]
    | .val (.bl false) => some (.val (.bl false))
    | _ => none
  | .ite c a b, ρ => (evT fn c ρ).bind fun k => if k then evE fn a ρ else evE fn b ρ
  | .call f es, ρ => (zcN fn es ρ).bind fun rs => zfn rs (fn f (rs.map zbM))
  | .dnew t, _ => some (.obj true (.dct t [] []))
  | .done t k v, ρ => (evE fn k ρ).bind fun x => (evE fn v ρ).bind fun y => (toD x).bind fun a => (toD y).bind fun b => if zbS t a then some (.obj true (.dct t [a] [b])) else none
  | .comp rng src cond elt, ρ => (zcN fn src ρ).bind fun rs => (za0 rng rs).bind fun ds =>
    if ds.length ≤ line then (zdQ (fun d => evT fn cond (some (.val d) :: ρ)) (fun d => evE fn elt (some (.val d) :: ρ)) ds).map fun l => SV.obj true (.lst l) else none
noncomputable def zcN (fn : Nat → List D → Option SV) : Es → Env → Option (List SV)
  | .nil, _ => some []
  | .cons e es, ρ => (evE fn e ρ).bind fun r => (zcN fn es ρ).map (r :: ·)
noncomputable def evT (fn : Nat → List D → Option SV) : E → Env → Option Bool
  | .and a b, ρ => (evT fn a ρ).bind fun k => if k then evT fn b ρ else some false
  | .or a b, ρ => (evT fn a ρ).bind fun k => if k then some true else evT fn b ρ
  | .not a, ρ => (evT fn a ρ).map (!·)
  | .int i, _ => some (i != 0)
  | .bl b, _ => some b
  | .non, _ => some false
  | .str _, _ => none
  | .var i, ρ => (look ρ i).bind zb0
  | .prim p es, ρ => (zcN fn es ρ).bind fun rs => (zal p (rs.map zbM)).bind zb0
  | .tup _, _ => none
  | .lst _, _ => none
  | .chain p q a b c, ρ => (evE fn a ρ).bind fun x => (evE fn b ρ).bind fun y => (zal p [zbM x, zbM y]).bind fun z => match z with
    | .val (.bl true) => (evE fn c ρ).bind fun w => (zal q [zbM y, zbM w]).bind zb0
    | .val (.bl false) => some false
    | _ => none
  | .ite _ _ _, _ => none
  | .call f es, ρ => (zcN fn es ρ).bind fun rs => (zfn rs (fn f (rs.map zbM))).bind zb0
  | .comp rng src cond elt, ρ => (zcN fn src ρ).bind fun rs => (za0 rng rs).bind fun ds =>
    if ds.length ≤ line then (zdQ (fun d => evT fn cond (some (.val d) :: ρ)) (fun d => evE fn elt (some (.val d) :: ρ)) ds).map fun l => !l.isEmpty else none
  | .dnew _, _ => none
  | .done _ _ _, _ => none
end
inductive Ans where
  | ok (r : SV) (outs : List D)
  | ex (c : Nat)
noncomputable def prj (fa : Nat → List D → Option Ans) (f : Nat) (ds : List D) : Option SV := match fa f ds with
  | some (.ok r []) => some r
  | _ => none
set_option genInjectivity false
inductive MA where
  | nil | e (c : E) (r : MA) | s (i : Nat) (r : MA) | n (t : Bool) (r : MA)
inductive AV where
  | e (d : D) | l (ds : List D) | s (i : Nat) (d : D) | n (t : Bool)
inductive M where
  | call (f : Nat) (ma : MA)
  | op (p : Prim) (a : E) (m : M)
set_option genInjectivity true
noncomputable def zgE : D → Bool
  | .dct _ _ vs => zbA vs
  | _ => false
noncomputable def SV.fine : SV → Bool
  | .val d => LW.plain d
  | .obj true d => zc3 d
  | _ => false
noncomputable def zqX : SV → Option AV
  | .val (.lst ds) => if zbA ds then some (.l ds) else none
  | .val d => if plain d then some (.e d) else none
  | .obj _ (.lst ds) => if zbA ds then some (.l ds) else none
  | _ => none
noncomputable def zda (ρ : Env) (i : Nat) : Option D := match ρ[i]? with
  | some (some x) => x.cell
  | _ => none
noncomputable def zgx (fn : Nat → List D → Option SV) : MA → Env → Option (List AV)
  | .nil, _ => some []
  | .e c r, ρ => (evE fn c ρ).bind fun x => (zqX x).bind fun a => (zgx fn r ρ).map (a :: ·)
  | .s i r, ρ => (zda ρ i).bind fun d => if zgE d then (zgx fn r ρ).map (.s i d :: ·) else none
  | .n t r, ρ => (zgx fn r ρ).map (.n t :: ·)
noncomputable def zr6 : AV → D
  | .e d => d
  | .l ds => .lst ds
  | .s _ d => d
  | .n t => .dct t [] []
noncomputable def ztl (ρ : Env) (i : Nat) (d : D) : Env := match ρ[i]? with
  | some (some x) => ρ.set i (some (x.put d))
  | _ => ρ
noncomputable def zgF (ρ : Env) : List AV → List D → Option Env
  | [], [] => some ρ
  | .s i _ :: r, d :: ds => zgF (ztl ρ i d) r ds
  | .n _ :: r, _ :: ds => zgF ρ r ds
  | .e _ :: r, ds => zgF ρ r ds
  | .l _ :: r, ds => zgF ρ r ds
  | _, _ => none
noncomputable def evM (fa : Nat → List D → Option Ans) : M → Env → Option (SV × Env)
  | .call f ma, ρ => (zgx (prj fa) ma ρ).bind fun xs => (fa f (xs.map zr6)).bind fun a => match a with
    | .ok r outs => if r.fine && outs.all zc3 then (zgF ρ xs outs).map fun ρ' => (r, ρ') else none
    | .ex _ => none
  | .op p a m, ρ => (evE (prj fa) a ρ).bind fun x => match x with
    | .val d => if plain d then (evM fa m ρ).bind fun y => (zal p [d, zbM y.1]).map fun z => (z, y.2) else none
    | _ => none
set_option genInjectivity false
mutual
inductive S where
  | expr (e : E) | asg (i : Nat) (e : E) | mov (i j : Nat) | app (i : Nat) (e : E) | dset (i : Nat) (k v : E) | dupd (i j : Nat) | unp3 (i j k : Nat) (e : E) | exprM (m : M) | asgM (i : Nat) (m : M) | ifO (c : E) (m : M) (a b : Ss) | ret (e : E) | retV (i : Nat) | retN
  | ifs (c : E) (a b : Ss) | for_ (i : Nat) (rng : Bool) (src : Es) (body : Ss) | forV (i j : Nat) (body : Ss) | forU (i j : Nat) (rng : Bool) (src : Es) (body : Ss) | forE (i j : Nat) (src : E) (body : Ss) | while_ (c : E) (body : Ss) | frz (js : List Nat) (s : S) | brk | cnt | pass | stop
inductive Ss where
  | nil | cons (s : S) (ss : Ss)
end
set_option genInjectivity true
inductive Fl where
  | nx | br | ct | rt (r : SV)
noncomputable def zgy (i : Nat) (body : Env → Option (Fl × Env)) : List D → Env → Option (Fl × Env)
  | [], ρ => some (.nx, ρ)
  | d :: r, ρ => (body (ρ.set i (some (.val d)))).bind fun x => match x.1 with
    | .nx => zgy i body r x.2
    | .ct => zgy i body r x.2
    | .br => some (.nx, x.2)
    | .rt v => some (.rt v, x.2)
noncomputable def ziS : D → Bool
  | .tup [.int a, .int b] => decide (0 ≤ a ∧ a ≤ 7 ∧ 0 ≤ b ∧ b ≤ 7)
  | _ => false
noncomputable def zdb (ks vs : List D) : List D → List D → List D × List D
  | k :: ks2, v :: vs2 => match zhx true ks vs k v with
    | .dct _ a b => zdb a b ks2 vs2
    | _ => (ks, vs)
  | _, _ => (ks, vs)
noncomputable def zpO (ρ : Env) (i : Nat) (x : SV) : Option D → Option D → Option (Fl × Env)
  | some (.dct true ks vs), some (.dct true ks2 vs2) => if ks2.all ziS && decide (ks.length + ks2.length < line) then some (.nx, ρ.set i (some (x.put (.dct true (zdb ks vs ks2 vs2).1 (zdb ks vs ks2 vs2).2)))) else none
  | _, _ => none
noncomputable def znD (ρ : Env) (i j : Nat) : Option (Fl × Env) := if i = j then none else match ρ[i]? with
  | some (some x) => zpO ρ i x x.cell (zda ρ j)
  | _ => none
noncomputable def zxD (ρ : Env) (i j k : Nat) : SV → Option (Fl × Env)
  | .obj true (.lst [a, b, c]) => if free ρ i && free ρ j && free ρ k then some (.nx, ((ρ.set i (some (.val a))).set j (some (.val b))).set k (some (.val c))) else none
  | _ => none
noncomputable def znE : Nat → List D → List D
  | _, [] => []
  | k, d :: r => .tup [.int k, d] :: znE (k + 1) r
noncomputable def zxE : SV → Option (List D)
  | .obj true (.lst l) => some (znE 0 l)
  | .val (.str x) => some (znE 0 (zt9 x))
  | _ => none
noncomputable def zpP (i j : Nat) (body : Env → Option (Fl × Env)) : List D → Env → Option (Fl × Env)
  | [], ρ => some (.nx, ρ)
  | .tup [a, b] :: r, ρ => (body ((ρ.set i (some (.val a))).set j (some (.val b)))).bind fun x => match x.1 with
    | .nx => zpP i j body r x.2
    | .ct => zpP i j body r x.2
    | .br => some (.nx, x.2)
    | .rt v => some (.rt v, x.2)
  | _, _ => none
noncomputable def zc4 (test : Env → Option Bool) (body : Env → Option (Fl × Env)) : Nat → Env → Option (Fl × Env)
  | 0, _ => none
  | n + 1, ρ => (test ρ).bind fun b => if b then (body ρ).bind fun x => (match x.1 with
    | .nx => zc4 test body n x.2
    | .ct => zc4 test body n x.2
    | .br => some (.nx, x.2)
    | .rt v => some (.rt v, x.2)) else some (.nx, ρ)
noncomputable def zg1 (ρ : Env) (j : Nat) : Option (List D × Env) := match ρ[j]? with
  | some (some (.val d)) => (zgC d).map fun l => (l, ρ)
  | some (some (.obj _ (.lst ds))) => some (ds, ρ.set j (some (.val (.lst ds))))
  | _ => none
noncomputable def zqY (ρ : Env) (j : Nat) : Env := match ρ[j]? with
  | some (some (.obj true d)) => ρ.set j (some (.val d))
  | _ => ρ
mutual
noncomputable def exS (fa : Nat → List D → Option Ans) (fuel : Nat) : S → Env → Option (Fl × Env)
  | .expr e, ρ => (evE (prj fa) e ρ).map fun _ => (.nx, ρ)
  | .asg i e, ρ => (evE (prj fa) e ρ).bind fun r => if r.lent || !free ρ i then none else some (.nx, ρ.set i (some r))
  | .mov i j, ρ => if free ρ i then (match ρ[j]? with
    | some (some (.val d)) => some (.nx, ρ.set i (some (.val d)))
    | some (some (.obj _ d)) => some (.nx, (ρ.set j (some (.val d))).set i (some (.val d)))
    | _ => none) else none
  | .app i e, ρ => match ρ[i]? with
    | some (some x) => (match x.cell with
      | some (.lst ds) => (evE (prj fa) e ρ).bind fun r => (toD r).bind fun d => if ds.length < line then some (.nx, ρ.set i (some (x.put (.lst (ds ++ [d]))))) else none
      | _ => none)
    | _ => none
  | .dupd i j, ρ => znD ρ i j
  | .unp3 i j k e, ρ => (evE (prj fa) e ρ).bind (zxD ρ i j k)
  | .dset i k v, ρ => match ρ[i]? with
    | some (some x) => (match x.cell with
      | some (.dct t ks vs) => (evE (prj fa) v ρ).bind fun r => (toD r).bind fun d => (evE (prj fa) k ρ).bind fun r => (toD r).bind fun a => if zbS t a && decide (ks.length < line) then some (.nx, ρ.set i (some (x.put (zhx t ks vs a d)))) else none
      | _ => none)
    | _ => none
  | .exprM m, ρ => (evM fa m ρ).map fun x => (.nx, x.2)
  | .asgM i m, ρ => (evM fa m ρ).bind fun x => if x.1.lent || !free x.2 i then none else some (.nx, x.2.set i (some (.val (zbM x.1))))
  | .ifO c m a b, ρ => (evT (prj fa) c ρ).bind fun k => if k then zaS fa fuel a ρ else (evM fa m ρ).bind fun x => (zb0 x.1).bind fun k => if k then zaS fa fuel a x.2 else zaS fa fuel b x.2
  | .ret e, ρ => (evE (prj fa) e ρ).bind fun r => if r.lent then none else some (.rt r, ρ)
  | .retV i, ρ => match ρ[i]? with
    | some (some (.val d)) => some (.rt (.val d), ρ)
    | some (some (.obj _ d)) => some (.rt (.obj true d), ρ.set i none)
    | _ => none
  | .retN, ρ => some (.rt (.val .non), ρ)
  | .ifs c a b, ρ => (evT (prj fa) c ρ).bind fun k => if k then zaS fa fuel a ρ else zaS fa fuel b ρ
  | .for_ i rng src body, ρ => (zcN (prj fa) src ρ).bind fun rs => if rs.any SV.lent || !free ρ i then none else (za0 rng rs).bind fun ds => zgy i (zaS fa fuel body) ds ρ
  | .forV i j body, ρ => if free ρ i then (zg1 ρ j).bind fun x => zgy i (zaS fa fuel body) x.1 x.2 else none
  | .forU i j rng src body, ρ => (zcN (prj fa) src ρ).bind fun rs => if rs.any SV.lent || !free ρ i || !free ρ j then none else (za0 rng rs).bind fun ds => zpP i j (zaS fa fuel body) ds ρ
  | .forE i j src body, ρ => (evE (prj fa) src ρ).bind fun r => if !free ρ i || !free ρ j then none else (zxE r).bind fun ds => zpP i j (zaS fa fuel body) ds ρ
  | .while_ c body, ρ => zc4 (evT (prj fa) c) (zaS fa fuel body) fuel ρ
  | .frz js s, ρ => exS fa fuel s (js.foldl zqY ρ)
  | .brk, ρ => some (.br, ρ)
  | .cnt, ρ => some (.ct, ρ)
  | .pass, ρ => some (.nx, ρ)
  | .stop, _ => none
noncomputable def zaS (fa : Nat → List D → Option Ans) (fuel : Nat) : Ss → Env → Option (Fl × Env)
  | .nil, ρ => some (.nx, ρ)
  | .cons s ss, ρ => (exS fa fuel s ρ).bind fun x => match x.1 with
    | .nx => zaS fa fuel ss x.2
    | _ => some x
end
inductive Hd where
  | ret (ks : List Nat) | two (i : Nat) (ks ks2 : List Nat)
mutual
inductive T where
  | pl (s : S) | raise (c : Nat) | callX (i : Nat) (es : Es) | retX (i : Nat) (es : Es) | asgX (k i : Nat) (es : Es) | ifX (neg : Bool) (i : Nat) (es : Es) (a b : Ts) | ifs (c : E) (a b : Ts) | tryX (b : Ts) (k : Nat) (cs : List Nat) (h : Hd) | stuck
inductive Ts where
  | nil | cons (t : T) (ts : Ts)
end
inductive FlX where
  | fl (f : Fl) | ex (c : Nat)
noncomputable def zzq (c k : Nat) : Bool := k == c || k == 0 || k == 7
noncomputable def zuc (fa : Nat → List D → Option Ans) (i : Nat) (es : Es) (ρ : Env) : Option Ans := (zcN (prj fa) es ρ).bind fun rs => if rs.any SV.lent then none else fa i (rs.map zbM)
noncomputable def hdX (c : Nat) (ρ : Env) : Hd → Option (FlX × Env)
  | .ret ks => if ks.all (zzq c) then some (.fl (.rt (.obj true (.lst (ks.map fun _ => .bl true)))), ρ) else none
  | .two _ _ _ => none
mutual
noncomputable def exT (fa : Nat → List D → Option Ans) (fuel : Nat) : T → Env → Option (FlX × Env)
  | .pl s, ρ => (exS fa fuel s ρ).map fun x => (.fl x.1, x.2)
  | .raise c, ρ => some (.ex c, ρ)
  | .callX i es, ρ => (zuc fa i es ρ).bind fun a => match a with
    | .ok _ [] => some (.fl .nx, ρ)
    | .ex c => some (.ex c, ρ)
    | _ => none
  | .retX i es, ρ => (zuc fa i es ρ).bind fun a => match a with
    | .ok r [] => if r.lent then none else some (.fl (.rt r), ρ)
    | .ex c => some (.ex c, ρ)
    | _ => none
  | .asgX k i es, ρ => (zuc fa i es ρ).bind fun a => match a with
    | .ok r [] => if r.lent || !free ρ k then none else some (.fl .nx, ρ.set k (some r))
    | .ex c => some (.ex c, ρ)
    | _ => none
  | .ifX neg i es a b, ρ => (zuc fa i es ρ).bind fun x => match x with
    | .ok (.val (.bl k)) [] => if k != neg then zr7 fa fuel a ρ else zr7 fa fuel b ρ
    | .ex c => some (.ex c, ρ)
    | _ => none
  | .ifs c a b, ρ => (evT (prj fa) c ρ).bind fun k => if k then zr7 fa fuel a ρ else zr7 fa fuel b ρ
  | .tryX b k cs h, ρ => (zr7 fa fuel b ρ).bind fun x => match x.1 with
    | .fl _ => some x
    | .ex c => if cs.contains c then hdX c x.2 h else none
  | .stuck, _ => none
noncomputable def zr7 (fa : Nat → List D → Option Ans) (fuel : Nat) : Ts → Env → Option (FlX × Env)
  | .nil, ρ => some (.fl .nx, ρ)
  | .cons t ts, ρ => (exT fa fuel t ρ).bind fun x => match x.1 with
    | .fl .nx => zr7 fa fuel ts x.2
    | _ => some x
end
structure Fn where
  np : Nat
  nl : Nat
  body : Ss
  io : List Nat := []
  xb : Option Ts := none
noncomputable def zzr : Option (FlX × Env) → Option Ans
  | some (.fl (.rt r), _) => some (.ok r [])
  | some (.fl .nx, _) => some (.ok (.val .non) [])
  | some (.ex c, _) => some (.ex c)
  | _ => none
noncomputable def zc5 (ρ : Env) : List Nat → Option (List D)
  | [] => some []
  | i :: r => match ρ[i]? with
    | some (some (.io d)) => (zc5 ρ r).map (d :: ·)
    | _ => none
noncomputable def zpQ (io : List Nat) : Option (Fl × Env) → Option Ans
  | some (.rt r, ρ) => (zc5 ρ io).map (Ans.ok r)
  | some (.nx, ρ) => (zc5 ρ io).map (Ans.ok (.val .non))
  | _ => none
noncomputable def zdR (io : List Nat) : Nat → List D → Env
  | _, [] => []
  | k, d :: r => some (if io.contains k then .io d else .val d) :: zdR io (k + 1) r
noncomputable def zas (P : Nat → Option Fn) (fuel : Nat) : Nat → Nat → List D → Option Ans
  | 0, _, _ => none
  | n + 1, f, ds => (P f).bind fun F => if ds.length = F.np then (match F.xb with
    | none => zpQ F.io (zaS (zas P fuel n) fuel F.body (zdR F.io 0 ds ++ List.replicate (F.nl - F.np) none))
    | some t => zzr (zr7 (zas P fuel n) fuel t (zdR [] 0 ds ++ List.replicate (F.nl - F.np) none))) else none
noncomputable def za1 (P : Nat → Option Fn) (fuel n : Nat) : Nat → List D → Option SV := prj (zas P fuel n)
theorem zqZ {fn i ρ} : evE fn (E.int i) ρ = (some (.val (.int i))) := id rfl
theorem zxF {fn b ρ} : evE fn (E.bl b) ρ = (some (.val (.bl b))) := id rfl
theorem zud {fn  ρ} : evE fn (E.non) ρ = (some (.val .non)) := id rfl
theorem zue {fn x ρ} : evE fn (E.str x) ρ = (some (.val (.str x))) := id rfl
theorem zuf {fn i ρ} : evE fn (E.var i) ρ = (look ρ i) := id rfl
theorem zcs {fn p es ρ} : evE fn (E.prim p es) ρ = ((zcN fn es ρ).bind fun rs => zal p (rs.map zbM)) := id rfl
theorem zug {fn es ρ} : evE fn (E.tup es) ρ = ((zcN fn es ρ).bind fun rs => (ziR rs).map fun ds => .val (.tup ds)) := id rfl
theorem zuh {fn es ρ} : evE fn (E.lst es) ρ = ((zcN fn es ρ).bind fun rs => (ziR rs).map fun ds => SV.obj true (.lst ds)) := id rfl
theorem zui {fn a b ρ} : evE fn (E.and a b) ρ = ((evE fn a ρ).bind fun r => match r with
    | .val (.bl true) => evE fn b ρ
    | .val (.bl false) => some (.val (.bl false))
    | _ => none) := id rfl
theorem zpR {fn p q a b c ρ} : evE fn (E.chain p q a b c) ρ = ((evE fn a ρ).bind fun x => (evE fn b ρ).bind fun y => (zal p [zbM x, zbM y]).bind fun z => match z with
    | .val (.bl true) => (evE fn c ρ).bind fun w => zal q [zbM y, zbM w]
    | .val (.bl false) => some (.val (.bl false))
    | _ => none) := id rfl
theorem znF {fn f es ρ} : evE fn (E.call f es) ρ = ((zcN fn es ρ).bind fun rs => zfn rs (fn f (rs.map zbM))) := id rfl
theorem znG {fn t ρ} : evE fn (E.dnew t) ρ = (some (.obj true (.dct t [] []))) := id rfl
theorem zr8 {fn t k v ρ} : evE fn (E.done t k v) ρ = ((evE fn k ρ).bind fun x => (evE fn v ρ).bind fun y => (toD x).bind fun a => (toD y).bind fun b => if zbS t a then some (.obj true (.dct t [a] [b])) else none) := id rfl
theorem znH {fn rng src cond elt ρ} : evE fn (E.comp rng src cond elt) ρ = ((zcN fn src ρ).bind fun rs => (za0 rng rs).bind fun ds =>
    if ds.length ≤ line then (zdQ (fun d => evT fn cond (some (.val d) :: ρ)) (fun d => evE fn elt (some (.val d) :: ρ)) ds).map fun l => SV.obj true (.lst l) else none) := id rfl
theorem zch {fn  ρ} : zcN fn (Es.nil) ρ = (some []) := id rfl
theorem zbB {fn e es ρ} : zcN fn (Es.cons e es) ρ = ((evE fn e ρ).bind fun r => (zcN fn es ρ).map (r :: ·)) := id rfl
theorem zuj {fn a b ρ} : evT fn (E.and a b) ρ = ((evT fn a ρ).bind fun k => if k then evT fn b ρ else some false) := id rfl
theorem zxG {fn a b ρ} : evT fn (E.or a b) ρ = ((evT fn a ρ).bind fun k => if k then some true else evT fn b ρ) := id rfl
theorem zuk {fn a ρ} : evT fn (E.not a) ρ = ((evT fn a ρ).map (!·)) := id rfl
theorem zxH {fn b ρ} : evT fn (E.bl b) ρ = (some b) := id rfl
theorem znI {fn p es ρ} : evT fn (E.prim p es) ρ = ((zcN fn es ρ).bind fun rs => (zal p (rs.map zbM)).bind zb0) := id rfl
theorem zpS {fn p q a b c ρ} : evT fn (E.chain p q a b c) ρ = ((evE fn a ρ).bind fun x => (evE fn b ρ).bind fun y => (zal p [zbM x, zbM y]).bind fun z => match z with
    | .val (.bl true) => (evE fn c ρ).bind fun w => (zal q [zbM y, zbM w]).bind zb0
    | .val (.bl false) => some false
    | _ => none) := id rfl
theorem zr9 {fn f es ρ} : evT fn (E.call f es) ρ = ((zcN fn es ρ).bind fun rs => (zfn rs (fn f (rs.map zbM))).bind zb0) := id rfl
theorem zq0 {fn  ρ} : zgx fn (MA.nil) ρ = (some []) := id rfl
theorem zyE {fn c r ρ} : zgx fn (MA.e c r) ρ = ((evE fn c ρ).bind fun x => (zqX x).bind fun a => (zgx fn r ρ).map (a :: ·)) := id rfl
theorem zyF {fn i r ρ} : zgx fn (MA.s i r) ρ = ((zda ρ i).bind fun d => if zgE d then (zgx fn r ρ).map (.s i d :: ·) else none) := id rfl
theorem zxI {fn t r ρ} : zgx fn (MA.n t r) ρ = ((zgx fn r ρ).map (.n t :: ·)) := id rfl
theorem zsa {fa f ma ρ} : evM fa (M.call f ma) ρ = ((zgx (prj fa) ma ρ).bind fun xs => (fa f (xs.map zr6)).bind fun a => match a with
    | .ok r outs => if r.fine && outs.all zc3 then (zgF ρ xs outs).map fun ρ' => (r, ρ') else none
    | .ex _ => none) := id rfl
theorem zsb {fa fuel e ρ} : exS fa fuel (S.expr e) ρ = ((evE (prj fa) e ρ).map fun _ => (.nx, ρ)) := id rfl
theorem zq1 {fa fuel i e ρ} : exS fa fuel (S.asg i e) ρ = ((evE (prj fa) e ρ).bind fun r => if r.lent || !free ρ i then none else some (.nx, ρ.set i (some r))) := id rfl
theorem zq2 {fa fuel i j ρ} : exS fa fuel (S.mov i j) ρ = (if free ρ i then (match ρ[j]? with
    | some (some (.val d)) => some (.nx, ρ.set i (some (.val d)))
    | some (some (.obj _ d)) => some (.nx, (ρ.set j (some (.val d))).set i (some (.val d)))
    | _ => none) else none) := id rfl
theorem zq3 {fa fuel i e ρ} : exS fa fuel (S.app i e) ρ = (match ρ[i]? with
    | some (some x) => (match x.cell with
      | some (.lst ds) => (evE (prj fa) e ρ).bind fun r => (toD r).bind fun d => if ds.length < line then some (.nx, ρ.set i (some (x.put (.lst (ds ++ [d]))))) else none
      | _ => none)
    | _ => none) := id rfl
theorem zsc {fa fuel i j ρ} : exS fa fuel (S.dupd i j) ρ = (znD ρ i j) := id rfl
theorem znJ {fa fuel i k v ρ} : exS fa fuel (S.dset i k v) ρ = (match ρ[i]? with
    | some (some x) => (match x.cell with
      | some (.dct t ks vs) => (evE (prj fa) v ρ).bind fun r => (toD r).bind fun d => (evE (prj fa) k ρ).bind fun r => (toD r).bind fun a => if zbS t a && decide (ks.length < line) then some (.nx, ρ.set i (some (x.put (zhx t ks vs a d)))) else none
      | _ => none)
    | _ => none) := id rfl
theorem zpT {fa fuel m ρ} : exS fa fuel (S.exprM m) ρ = ((evM fa m ρ).map fun x => (.nx, x.2)) := id rfl
theorem zul {fa fuel c m a b ρ} : exS fa fuel (S.ifO c m a b) ρ = ((evT (prj fa) c ρ).bind fun k => if k then zaS fa fuel a ρ else (evM fa m ρ).bind fun x => (zb0 x.1).bind fun k => if k then zaS fa fuel a x.2 else zaS fa fuel b x.2) := id rfl
theorem zum {fa fuel e ρ} : exS fa fuel (S.ret e) ρ = ((evE (prj fa) e ρ).bind fun r => if r.lent then none else some (.rt r, ρ)) := id rfl
theorem znK {fa fuel i ρ} : exS fa fuel (S.retV i) ρ = (match ρ[i]? with
    | some (some (.val d)) => some (.rt (.val d), ρ)
    | some (some (.obj _ d)) => some (.rt (.obj true d), ρ.set i none)
    | _ => none) := id rfl
theorem zun {fa fuel c a b ρ} : exS fa fuel (S.ifs c a b) ρ = ((evT (prj fa) c ρ).bind fun k => if k then zaS fa fuel a ρ else zaS fa fuel b ρ) := id rfl
theorem zsd {fa fuel i rng src body ρ} : exS fa fuel (S.for_ i rng src body) ρ = ((zcN (prj fa) src ρ).bind fun rs => if rs.any SV.lent || !free ρ i then none else (za0 rng rs).bind fun ds => zgy i (zaS fa fuel body) ds ρ) := id rfl
theorem zse {fa fuel i j body ρ} : exS fa fuel (S.forV i j body) ρ = (if free ρ i then (zg1 ρ j).bind fun x => zgy i (zaS fa fuel body) x.1 x.2 else none) := id rfl
theorem znL {fa fuel c body ρ} : exS fa fuel (S.while_ c body) ρ = (zc4 (evT (prj fa) c) (zaS fa fuel body) fuel ρ) := id rfl
theorem zuo {fa fuel js s ρ} : exS fa fuel (S.frz js s) ρ = (exS fa fuel s (js.foldl zqY ρ)) := id rfl
theorem zsf {fa fuel  ρ} : exS fa fuel (S.stop) ρ = (none) := id rfl
theorem zsg {fa fuel  ρ} : zaS fa fuel (Ss.nil) ρ = (some (.nx, ρ)) := id rfl
theorem zpU {fa fuel s ss ρ} : zaS fa fuel (Ss.cons s ss) ρ = ((exS fa fuel s ρ).bind fun x => match x.1 with
    | .nx => zaS fa fuel ss x.2
    | _ => some x) := id rfl
theorem on1 {α : Type} {P : List α → Prop} (h : ∀ a0, P [a0]) (us : List α) (hl : us.length = 1) : P us := by
  cases us with
  | nil => cases hl
  | cons a0 r0 =>
    cases r0 with
    | nil => exact h a0
    | cons _ _ => simp at hl
theorem on2 {α : Type} {P : List α → Prop} (h : ∀ a0 a1, P [a0, a1]) (us : List α) (hl : us.length = 2) : P us := by
  cases us with
  | nil => cases hl
  | cons a0 r0 =>
    cases r0 with
    | nil => cases hl
    | cons a1 r1 =>
      cases r1 with
      | nil => exact h a0 a1
      | cons _ _ => simp at hl
theorem on3 {α : Type} {P : List α → Prop} (h : ∀ a0 a1 a2, P [a0, a1, a2]) (us : List α) (hl : us.length = 3) : P us := by
  cases us with
  | nil => cases hl
  | cons a0 r0 =>
    cases r0 with
    | nil => cases hl
    | cons a1 r1 =>
      cases r1 with
      | nil => cases hl
      | cons a2 r2 =>
        cases r2 with
        | nil => exact h a0 a1 a2
        | cons _ _ => simp at hl
theorem on4 {α : Type} {P : List α → Prop} (h : ∀ a0 a1 a2 a3, P [a0, a1, a2, a3]) (us : List α) (hl : us.length = 4) : P us := by
  cases us with
  | nil => cases hl
  | cons a0 r0 =>
    cases r0 with
    | nil => cases hl
    | cons a1 r1 =>
      cases r1 with
      | nil => cases hl
      | cons a2 r2 =>
        cases r2 with
        | nil => cases hl
        | cons a3 r3 =>
          cases r3 with
          | nil => exact h a0 a1 a2 a3
          | cons _ _ => simp at hl
theorem on5 {α : Type} {P : List α → Prop} (h : ∀ a0 a1 a2 a3 a4, P [a0, a1, a2, a3, a4]) (us : List α) (hl : us.length = 5) : P us := by
  cases us with
  | nil => cases hl
  | cons a0 r0 =>
    cases r0 with
    | nil => cases hl
    | cons a1 r1 =>
      cases r1 with
      | nil => cases hl
      | cons a2 r2 =>
        cases r2 with
        | nil => cases hl
        | cons a3 r3 =>
          cases r3 with
          | nil => cases hl
          | cons a4 r4 =>
            cases r4 with
            | nil => exact h a0 a1 a2 a3 a4
            | cons _ _ => simp at hl
end L2.LW
set_option maxHeartbeats 4000000
namespace L2.LW
open PySem PySem.Spec PyProof.Rows
noncomputable def zxJ (K : PySem.W.Frag) (a : Addr) (xs : List V) : Prop :=
  ∃ (o : Obj) (its : Array Value) (n : Nat), K.lookup a = some o ∧ o.cls = .type "list" ∧ o.dict = Option.none ∧ o.data = .seq its n ∧ its.size ≤ sizeLine ∧ Vals xs its.toList
noncomputable def ziT (ns : List Int) (ys : List V) : List (Key × V) := (ns.map Sum.inl).zip ys
noncomputable def zd8 (ns : List (List Int)) (ys : List V) : List (List Key × V) := (ns.map fun l => l.map Sum.inl).zip ys
noncomputable def kT (l : List Int) : D := .tup (l.map D.int)
mutual
inductive Rep (K : PySem.W.Frag) (W : Addr → Prop) (H : Hp) : D → V → Prop where
  | int (i : Int) : Rep K W H (.int i) (.int i)
  | bl (b : Bool) : Rep K W H (.bl b) (.bl b)
  | non : Rep K W H .non .non
  | str (x : Str) : Rep K W H (.str x) (.str x)
  | tup {a : Addr} {xs : List V} {ds : List D} (h : H a = some (.tup xs)) (r : Reps K W H ds xs) : Rep K W H (.tup ds) (.ref a)
  | lst {a : Addr} {xs : List V} {ds : List D} (h : (¬ W a ∧ Rd H a (.lst xs)) ∨ zxJ K a xs) (r : Reps K W H ds xs) : Rep K W H (.lst ds) (.ref a)
  | dK {a : Addr} {ns : List Int} {ys : List V} {vs : List D} (n : ¬ W a) (h : H a = some (.dK (ziT ns ys))) (l : ns.length = ys.length) (r : Reps K W H vs ys) : Rep K W H (.dct false (ns.map D.int) vs) (.ref a)
  | dT {a : Addr} {ns : List (List Int)} {ys : List V} {vs : List D} (n : ¬ W a) (h : H a = some (.dT (zd8 ns ys))) (l : ns.length = ys.length) (r : Reps K W H vs ys) : Rep K W H (.dct true (ns.map kT) vs) (.ref a)
inductive Reps (K : PySem.W.Frag) (W : Addr → Prop) (H : Hp) : List D → List V → Prop where
  | nil : Reps K W H [] []
  | cons {d : D} {v : V} {ds : List D} {vs : List V} (h : Rep K W H d v) (t : Reps K W H ds vs) : Reps K W H (d :: ds) (v :: vs)
end
inductive ORep (K : PySem.W.Frag) (W : Addr → Prop) (H : Hp) : D → HO → Prop where
  | lst {xs : List V} {ds : List D} (r : Reps K W H ds xs) : ORep K W H (.lst ds) (.lst xs)
  | dK {ns : List Int} {ys : List V} {vs : List D} (l : ns.length = ys.length) (r : Reps K W H vs ys) : ORep K W H (.dct false (ns.map D.int) vs) (.dK (ziT ns ys))
  | dT {ns : List (List Int)} {ys : List V} {vs : List D} (l : ns.length = ys.length) (r : Reps K W H vs ys) : ORep K W H (.dct true (ns.map kT) vs) (.dT (zd8 ns ys))
structure Ext (W : Addr → Prop) (H : Hp) (W' : Addr → Prop) (H' : Hp) : Prop where
  keep : ∀ a o, H a = some o → ¬ W a → H' a = some o
  tup : ∀ a xs, H a = some (.tup xs) → H' a = some (.tup xs)
  frz : ∀ a o u, H a = some (.frz o u) → H' a = some (.frz o u)
  win : ∀ a, W' a → W a ∨ H a = Option.none
theorem Ext.out {W W' : Addr → Prop} {H H' : Hp} (x : Ext W H W' H') {a : Addr} {o : HO} (h : H a = some o) (n : ¬ W a) : ¬ W' a := fun w => by
  rcases x.win a w with q | q
  · exact n q
  · rw [h] at q; cases q
theorem Ext.same {W : Addr → Prop} {H H' : Hp} (s : Same H H') : Ext W H W H' := ⟨fun a o h _ => s a o h, fun a xs h => s a _ h, fun a o u h => s a _ h, fun _ w => .inl w⟩
section
variable {K : PySem.W.Frag} {W W' : Addr → Prop} {H H' : Hp}
mutual
theorem Rep.ext (x : Ext W H W' H') : ∀ {d : D} {v : V}, Rep K W H d v → Rep K W' H' d v
  | _, _, .int i => .int i
  | _, _, .bl b => .bl b
  | _, _, .non => .non
  | _, _, .str s => .str s
  | _, _, .dK n h l r => .dK (x.out h n) (x.keep _ _ h n) l (Reps.ext x r)
  | _, _, .dT n h l r => .dT (x.out h n) (x.keep _ _ h n) l (Reps.ext x r)
  | _, _, .tup h r => .tup (x.tup _ _ h) (Reps.ext x r)
  | _, _, .lst h r => .lst (by
      rcases h with ⟨n, h | ⟨o, h⟩⟩ | h
      · exact .inl ⟨x.out h n, .inl (x.keep _ _ h n)⟩
      · exact .inl ⟨x.out h n, .inr ⟨o, x.keep _ _ h n⟩⟩
      · exact .inr h) (Reps.ext x r)
theorem Reps.ext (x : Ext W H W' H') : ∀ {ds : List D} {vs : List V}, Reps K W H ds vs → Reps K W' H' ds vs
  | _, _, .nil => .nil
  | _, _, .cons h t => .cons (Rep.ext x h) (Reps.ext x t)
end
mutual
theorem Rep.less (x : ∀ a, W' a → W a) : ∀ {d : D} {v : V}, Rep K W H d v → Rep K W' H d v
  | _, _, .int i => .int i
  | _, _, .bl b => .bl b
  | _, _, .non => .non
  | _, _, .str s => .str s
  | _, _, .dK n h l r => .dK (fun w => n (x _ w)) h l (Reps.less x r)
  | _, _, .dT n h l r => .dT (fun w => n (x _ w)) h l (Reps.less x r)
  | _, _, .tup h r => .tup h (Reps.less x r)
  | _, _, .lst h r => .lst (by
      rcases h with ⟨n, h⟩ | h
      · exact .inl ⟨fun w => n (x _ w), h⟩
      · exact .inr h) (Reps.less x r)
theorem Reps.less (x : ∀ a, W' a → W a) : ∀ {ds : List D} {vs : List V}, Reps K W H ds vs → Reps K W' H ds vs
  | _, _, .nil => .nil
  | _, _, .cons h t => .cons (Rep.less x h) (Reps.less x t)
end
mutual
theorem Rep.plain : ∀ {d : D} {v : V}, Rep K W H d v → LW.plain d = true → Rep K W' H d v
  | _, _, .int i, _ => .int i
  | _, _, .bl b, _ => .bl b
  | _, _, .non, _ => .non
  | _, _, .str s, _ => .str s
  | _, _, .tup h r, p => .tup h (Reps.plain r (by simpa [LW.plain] using p))
  | _, _, .lst h r, p => by simp [LW.plain] at p
  | _, _, .dK _ _ _ _, p => by simp [LW.plain] at p
  | _, _, .dT _ _ _ _, p => by simp [LW.plain] at p
theorem Reps.plain : ∀ {ds : List D} {vs : List V}, Reps K W H ds vs → zbA ds = true → Reps K W' H ds vs
  | _, _, .nil, _ => .nil
  | _, _, .cons h t, p => by
    simp only [zbA, Bool.and_eq_true] at p
    exact .cons (Rep.plain h p.1) (Reps.plain t p.2)
end
theorem Reps.length : ∀ {ds : List D} {vs : List V}, Reps K W H ds vs → ds.length = vs.length
  | _, _, .nil => rfl
  | _, _, .cons _ t => by simp [Reps.length t]
theorem Reps.get : ∀ {ds : List D} {vs : List V} {i : Nat} {d : D}, Reps K W H ds vs → ds[i]? = some d → ∃ v, vs[i]? = some v ∧ Rep K W H d v
  | _, _, _, _, .nil, e => by simp at e
  | _, _, 0, _, .cons h _, e => by simp at e; subst e; exact ⟨_, rfl, h⟩
  | _, _, i + 1, d, .cons _ t, e => by
    obtain ⟨v, h1, h2⟩ := Reps.get (i := i) (d := d) t (by simpa using e)
    exact ⟨v, by simpa using h1, h2⟩
theorem Reps.append : ∀ {ds es : List D} {vs us : List V}, Reps K W H ds vs → Reps K W H es us → Reps K W H (ds ++ es) (vs ++ us)
  | _, _, _, _, .nil, s => s
  | _, _, _, _, .cons h t, s => .cons h (Reps.append t s)
theorem Reps.take : ∀ {ds : List D} {vs : List V} (n : Nat), Reps K W H ds vs → Reps K W H (ds.take n) (vs.take n)
  | _, _, 0, _ => .nil
  | _, _, _ + 1, .nil => .nil
  | _, _, n + 1, .cons h t => .cons h (Reps.take n t)
theorem Reps.drop : ∀ {ds : List D} {vs : List V} (n : Nat), Reps K W H ds vs → Reps K W H (ds.drop n) (vs.drop n)
  | _, _, 0, r => r
  | _, _, _ + 1, .nil => .nil
  | _, _, n + 1, .cons _ t => Reps.drop n t
theorem Reps.ints : ∀ (ns : List Int), Reps K W H (ns.map D.int) (ns.map V.int)
  | [] => .nil
  | i :: r => .cons (.int i) (Reps.ints r)
theorem Reps.ofInts : ∀ {ds : List D} {vs : List V} {ns : List Int}, Reps K W H ds vs → ints? ds = some ns → vs = ns.map V.int
  | _, _, ns, .nil, e => by simp [ints?] at e; subst e; rfl
  | _, _, ns, .cons (d := d) h t, e => by
    cases h with
    | int i =>
      simp only [ints?, jo2] at e
      obtain ⟨ms, e1, rfl⟩ := e
      rw [Reps.ofInts t e1]; rfl
    | _ => simp [ints?] at e
theorem ORep.ext {d : D} {o : HO} (h : ORep K W H d o) (x : Ext W H W' H') : ORep K W' H' d o := by
  cases h with
  | lst r => exact .lst (r.ext x)
  | dK l r => exact .dK l (r.ext x)
  | dT l r => exact .dT l (r.ext x)
theorem ORep.less {d : D} {o : HO} (h : ORep K W H d o) (x : ∀ a, W' a → W a) : ORep K W' H d o := by
  cases h with
  | lst r => exact .lst (r.less x)
  | dK l r => exact .dK l (r.less x)
  | dT l r => exact .dT l (r.less x)
theorem ORep.plain {d : D} {o : HO} (h : ORep K W H d o) (p : zc3 d = true) : ORep K W' H d o := by
  cases h with
  | lst r => exact .lst (r.plain p)
  | dK l r => exact .dK l (r.plain p)
  | dT l r => exact .dT l (r.plain p)
theorem ORep.rep {d : D} {o : HO} {a : Addr} (h : ORep K W H d o) (n : ¬ W a) (e : H a = some o) : Rep K W H d (.ref a) := by
  cases h with
  | lst r => exact .lst (.inl ⟨n, .inl e⟩) r
  | dK l r => exact .dK n e l r
  | dT l r => exact .dT n e l r
theorem ORep.kind {d : D} {o : HO} (h : ORep K W H d o) : (∀ xs, o ≠ .tup xs) ∧ (∀ b u, o ≠ .frz b u) := by
  cases h <;> exact ⟨fun _ z => (nomatch z), fun _ _ z => (nomatch z)⟩
noncomputable def add (W : Addr → Prop) (a : Addr) : Addr → Prop := fun b => W b ∨ b = a
inductive Frz (K : PySem.W.Frag) (W : Addr → Prop) (H : Hp) : SV → V → Prop where
  | val {d : D} {v : V} (h : Rep K W H d v) : Frz K W H (.val d) v
  | lis {d : D} {a : Addr} {o : HO} (h : ¬ W a) (e : H a = some o) (r : ORep K W H d o) : Frz K W H (.obj true d) (.ref a)
  | see {d : D} {a : Addr} {o : HO} (h : W a) (e : H a = some o) (r : ORep K W H d o) : Frz K W H (.obj false d) (.ref a)
inductive Res (K : PySem.W.Frag) (W : Addr → Prop) (H H' : Hp) : SV → V → Prop where
  | val {d : D} {v : V} (h : Rep K W H' d v) : Res K W H H' (.val d) v
  | new {d : D} {a : Addr} {o : HO} (h : H a = Option.none) (e : H' a = some o) (r : ORep K (add W a) H' d o) : Res K W H H' (.obj true d) (.ref a)
  | see {d : D} {a : Addr} {o : HO} (h : W a) (e : H' a = some o) (r : ORep K W H' d o) : Res K W H H' (.obj false d) (.ref a)
noncomputable def Wf (W : Addr → Prop) (H : Hp) : Prop := ∀ a, W a → H a ≠ Option.none
theorem Res.frz {r : SV} {v : V} (h : Res K W H H' r v) (wf : Wf W H) : Frz K W H' r v := by
  cases h with
  | val h => exact .val h
  | new h e r => exact .lis (fun w => wf _ w h) e (r.less fun b w => .inl w)
  | see h e r => exact .see h e r
theorem Frz.same {r : SV} {v : V} (h : Frz K W H r v) (s : Same H H') : Frz K W H' r v := by
  cases h with
  | val h => exact .val (h.ext (.same s))
  | lis h e r => exact .lis h (s _ _ e) (r.ext (.same s))
  | see h e r => exact .see h (s _ _ e) (r.ext (.same s))
noncomputable def Sees (K : PySem.W.Frag) (W : Addr → Prop) (H : Hp) (d : D) (v : V) : Prop :=
  Rep K W H d v ∨ ∃ a o, v = .ref a ∧ H a = some o ∧ ORep K W H d o
theorem Frz.sees {r : SV} {v : V} (h : Frz K W H r v) : Sees K W H (zbM r) v := by
  cases h with
  | val h => exact .inl h
  | lis h e r => exact .inr ⟨_, _, rfl, e, r⟩
  | see h e r => exact .inr ⟨_, _, rfl, e, r⟩
theorem Sees.lst {ds : List D} {v : V} (h : Sees K W H (.lst ds) v) : ∃ a xs, v = .ref a ∧ SqL K H a xs ∧ Reps K W H ds xs := by
  rcases h with h | ⟨a, o, rfl, e, r⟩
  · cases h with
    | lst h r =>
      rcases h with ⟨_, h⟩ | h
      · exact ⟨_, _, rfl, .inl h, r⟩
      · exact ⟨_, _, rfl, .inr h, r⟩
  · cases r with
    | lst r => exact ⟨_, _, rfl, .of e, r⟩
theorem Sees.tupH {ds : List D} {v : V} (h : Sees K W H (.tup ds) v) : ∃ a xs, v = .ref a ∧ H a = some (.tup xs) ∧ Reps K W H ds xs := by
  rcases h with h | ⟨a, o, rfl, e, r⟩
  · cases h with
    | tup h r => exact ⟨_, _, rfl, h, r⟩
  · cases r
theorem Sees.tup {ds : List D} {v : V} (h : Sees K W H (.tup ds) v) : ∃ a xs, v = .ref a ∧ SqT K H a xs ∧ Reps K W H ds xs := by
  obtain ⟨a, xs, e, h, r⟩ := h.tupH
  exact ⟨a, xs, e, .of h, r⟩
theorem Sees.dK {ks vs : List D} {v : V} (h : Sees K W H (.dct false ks vs) v) : ∃ a ns ys, v = .ref a ∧ ks = ns.map D.int ∧ H a = some (.dK (ziT ns ys)) ∧ ns.length = ys.length ∧ Reps K W H vs ys := by
  rcases h with h | ⟨a, o, rfl, e, r⟩
  · cases h with
    | dK n h l r => exact ⟨_, _, _, rfl, rfl, h, l, r⟩
  · cases r with
    | dK l r => exact ⟨_, _, _, rfl, rfl, e, l, r⟩
theorem Sees.dT {ks vs : List D} {v : V} (h : Sees K W H (.dct true ks vs) v) : ∃ a ns ys, v = .ref a ∧ ks = ns.map kT ∧ H a = some (.dT (zd8 ns ys)) ∧ ns.length = ys.length ∧ Reps K W H vs ys := by
  rcases h with h | ⟨a, o, rfl, e, r⟩
  · cases h with
    | dT n h l r => exact ⟨_, _, _, rfl, rfl, h, l, r⟩
  · cases r with
    | dT l r => exact ⟨_, _, _, rfl, rfl, e, l, r⟩
theorem Sees.int {i : Int} {v : V} (h : Sees K W H (.int i) v) : v = .int i := by
  rcases h with h | ⟨a, o, rfl, e, r⟩
  · cases h; rfl
  · cases r
theorem Sees.bl {i : Bool} {v : V} (h : Sees K W H (.bl i) v) : v = .bl i := by
  rcases h with h | ⟨a, o, rfl, e, r⟩
  · cases h; rfl
  · cases r
theorem Sees.str {i : Str} {v : V} (h : Sees K W H (.str i) v) : v = .str i := by
  rcases h with h | ⟨a, o, rfl, e, r⟩
  · cases h; rfl
  · cases r
theorem Sees.non {v : V} (h : Sees K W H .non v) : v = .non := by
  rcases h with h | ⟨a, o, rfl, e, r⟩
  · cases h; rfl
  · cases r
theorem Frz.toD {r : SV} {v : V} {d : D} (h : Frz K W H r v) (e : LW.toD r = some d) : Rep K W H d v := by
  cases h with
  | val h => simp [LW.toD] at e; subst e; exact h
  | lis h e' r => simp [LW.toD] at e; subst e; exact r.rep h e'
  | see h e' r => simp [LW.toD] at e
noncomputable def Own (ρ : LW.Env) (σ : St) (a : Addr) : Prop := ∃ (i : Nat) (x : SV) (d : D), ρ[i]? = some (some x) ∧ x.cell = some d ∧ σ[i]? = some (some (.ref a))
structure R (K : PySem.W.Frag) (W : Addr → Prop) (ρ : LW.Env) (σ : St) (H : Hp) : Prop where
  val : ∀ (i : Nat) (d : D), ρ[i]? = some (some (.val d)) → ∃ v, σ[i]? = some (some v) ∧ Rep K W H d v
  nol : ∀ (i : Nat) (d : D), ρ[i]? ≠ some (some (.obj false d))
  own : ∀ (i : Nat) (x : SV) (d : D), ρ[i]? = some (some x) → x.cell = some d → ∃ a o, σ[i]? = some (some (.ref a)) ∧ W a ∧ H a = some o ∧ ORep K W H d o
  inj : ∀ (i j : Nat) (x y : SV) (d e : D) (a : Addr), ρ[i]? = some (some x) → ρ[j]? = some (some y) → x.cell = some d → y.cell = some e → σ[i]? = some (some (.ref a)) → σ[j]? = some (some (.ref a)) → i = j
  wf : Wf W H
  len : ρ.length = σ.length
theorem R.ownW {ρ : LW.Env} {σ : St} (r : R K W ρ σ H) {a : Addr} (o : Own ρ σ a) : W a ∧ ∃ o d, H a = some o ∧ ORep K W H d o := by
  obtain ⟨i, x, d, h1, h2, h3⟩ := o
  obtain ⟨b, o, e, w, q, z⟩ := r.own i x d h1 h2
  rw [h3] at e; cases e
  exact ⟨w, o, d, q, z⟩
theorem R.same {ρ : LW.Env} {σ : St} (r : R K W ρ σ H) (s : Same H H') : R K W ρ σ H' := by
  refine ⟨fun i d h => ?_, r.nol, fun i x d h h' => ?_, r.inj, fun a w => ?_, r.len⟩
  · obtain ⟨v, h1, h2⟩ := r.val i d h
    exact ⟨v, h1, h2.ext (.same s)⟩
  · obtain ⟨a, o, h1, h2, h3, h4⟩ := r.own i x d h h'
    exact ⟨a, o, h1, h2, s _ _ h3, h4.ext (.same s)⟩
  · cases e : H a with
    | none => exact absurd e (r.wf a w)
    | some o => rw [s a o e]; exact fun z => nomatch z
theorem R.look {ρ : LW.Env} {σ : St} (r : R K W ρ σ H) {i : Nat} {x : SV} (h : look ρ i = some x) : ∃ v, σ[i]? = some (some v) ∧ Frz K W H x v ∧ Res K W H H x v := by
  unfold LW.look at h
  split at h
  · rename_i d e
    cases h
    obtain ⟨v, h1, h2⟩ := r.val i d e
    exact ⟨v, h1, .val h2, .val h2⟩
  · rename_i o d e
    cases h
    cases o with
    | false => exact absurd e (r.nol i d)
    | true =>
      obtain ⟨a, o, h1, h2, h3, h4⟩ := r.own i _ d e rfl
      exact ⟨_, h1, .see h2 h3 h4, .see h2 h3 h4⟩
  · rename_i d e
    cases h
    obtain ⟨a, o, h1, h2, h3, h4⟩ := r.own i _ d e rfl
    exact ⟨_, h1, .see h2 h3 h4, .see h2 h3 h4⟩
  · cases h
noncomputable def ziC (ρ : LW.Env) (i : Nat) : Prop := ∃ d, ρ[i]? = some (some (.io d))
theorem zdS {ρ : LW.Env} {i : Nat} (h : LW.free ρ i = true) : ¬ ziC ρ i := fun zz0 => by
  obtain ⟨d, e⟩ := zz0
  unfold LW.free at h; rw [e] at h; cases h
structure SPost (K : PySem.W.Frag) (W : Addr → Prop) (ρ : LW.Env) (σ : St) (H : Hp) (W' : Addr → Prop) (ρ' : LW.Env) (σ' : St) (H' : Hp) : Prop where
  r : R K W' ρ' σ' H'
  keep : ∀ a o, H a = some o → ¬ Own ρ σ a → H' a = some o
  win : ∀ a, W' a → W a ∨ H a = Option.none
  wout : ∀ a, W a → ¬ Own ρ σ a → W' a ∧ ¬ Own ρ' σ' a
  io : ∀ i, (ziC ρ' i ↔ ziC ρ i) ∧ (ziC ρ i → σ'[i]? = σ[i]?)
theorem SPost.trans {W1 W2 : Addr → Prop} {ρ ρ1 ρ2 : LW.Env} {σ σ1 σ2 : St} {H1 H2 : Hp} (x : SPost K W ρ σ H W1 ρ1 σ1 H1) (y : SPost K W1 ρ1 σ1 H1 W2 ρ2 σ2 H2) (r0 : R K W ρ σ H) : SPost K W ρ σ H W2 ρ2 σ2 H2 := by
  have no1 : ∀ a o, H a = some o → ¬ Own ρ σ a → ¬ Own ρ1 σ1 a := fun a o h n z => by
    rcases x.win a (x.r.ownW z).1 with w | w
    · exact (x.wout a w n).2 z
    · rw [h] at w; cases w
  refine ⟨y.r, fun a o h n => y.keep a o (x.keep a o h n) (no1 a o h n), fun a w => ?_, fun a w n => ?_, fun i => ⟨(y.io i).1.trans (x.io i).1, fun z => ((y.io i).2 ((x.io i).1.mpr z)).trans ((x.io i).2 z)⟩⟩
  · rcases y.win a w with q | q
    · exact x.win a q
    · cases e : H a with
      | none => exact .inr rfl
      | some o =>
        by_cases n : Own ρ σ a
        · exact .inl (r0.ownW n).1
        · rw [x.keep a o e n] at q; cases q
  · obtain ⟨w1, n1⟩ := x.wout a w n
    exact y.wout a w1 n1
theorem SPost.ext {W1 : Addr → Prop} {ρ ρ1 : LW.Env} {σ σ1 : St} {H1 : Hp} (x : SPost K W ρ σ H W1 ρ1 σ1 H1) (r0 : R K W ρ σ H) : Ext W H W1 H1 := by
  refine ⟨fun a o h n => x.keep a o h fun z => n (r0.ownW z).1, fun a xs h => x.keep a _ h fun z => ?_, fun a o u h => x.keep a _ h fun z => ?_, x.win⟩
  · obtain ⟨_, o, d, e, q⟩ := r0.ownW z
    rw [h] at e; cases e; exact q.kind.1 xs rfl
  · obtain ⟨_, o, d, e, q⟩ := r0.ownW z
    rw [h] at e; cases e; exact q.kind.2 _ _ rfl
theorem SPost.same {ρ : LW.Env} {σ : St} (r0 : R K W ρ σ H) (s : Same H H') : SPost K W ρ σ H W ρ σ H' :=
  ⟨r0.same s, fun a o h _ => s a o h, fun a w => .inl w, fun a w n => ⟨w, n⟩, fun _ => ⟨.rfl, fun _ => rfl⟩⟩
end
noncomputable def zzs (ρ : LW.Env) (σ : St) (a : Addr) : Prop := ∃ i, ziC ρ i ∧ σ[i]? = some (some (.ref a))
inductive Ret (K : PySem.W.Frag) (W : Addr → Prop) (ρ : LW.Env) (σ : St) (W' : Addr → Prop) (H' : Hp) : SV → V → Prop where
  | val {d : D} {v : V} (h : Rep K W' H' d v) : Ret K W ρ σ W' H' (.val d) v
  | new {d : D} {a : Addr} {o : HO} (h : W' a) (n : ¬ (W a ∧ ¬ Own ρ σ a)) (n' : ¬ zzs ρ σ a) (e : H' a = some o) (r : ORep K W' H' d o) : Ret K W ρ σ W' H' (.obj true d) (.ref a)
noncomputable def tE (K : PySem.W.Frag) (fn : Nat → List D → Option SV) (c : E) : TE := fun σ H Q => ∃ W ρ r, R K W ρ σ H ∧ evE fn c ρ = some r ∧ ∀ v H', Same H H' → Res K W H H' r v → Q v H'
noncomputable def tV (K : PySem.W.Frag) (fn : Nat → List D → Option SV) (c : E) : TE := fun σ H Q => ∃ W ρ r, R K W ρ σ H ∧ evE fn c ρ = some r ∧ ∀ v H', Same H H' → Frz K W H' r v → Q v H'
noncomputable def tVs (K : PySem.W.Frag) (fn : Nat → List D → Option SV) (cs : Es) : TA := fun σ H Q => ∃ W ρ rs, R K W ρ σ H ∧ zcN fn cs ρ = some rs ∧ ∀ vs H', Same H H' → Paired (Frz K W H') rs vs → Q vs H'
noncomputable def tT (K : PySem.W.Frag) (fn : Nat → List D → Option SV) (c : E) : TT := fun σ H Q => ∃ W ρ b, R K W ρ σ H ∧ evT fn c ρ = some b ∧ ∀ H', Same H H' → Q b H'
noncomputable def FlOk (K : PySem.W.Frag) (W : Addr → Prop) (ρ : LW.Env) (σ : St) (W' : Addr → Prop) (ρ' : LW.Env) (σ' : St) (H' : Hp) (D : Ends) : Fl → Prop
  | .nx => D.nx σ' H'
  | .br => D.bk σ' H'
  | .ct => D.ct σ' H'
  | .rt r => ∀ v, Ret K W ρ σ W' H' r v → D.rt v H'
noncomputable def tSs (K : PySem.W.Frag) (ex : LW.Env → Option (Fl × LW.Env)) : TS := fun D σ H => ∃ W ρ x, R K W ρ σ H ∧ ex ρ = some x ∧ ∀ W' σ' H', SPost K W ρ σ H W' x.2 σ' H' → FlOk K W ρ σ W' x.2 σ' H' D x.1
theorem _root_.L2.PE.imp {X : Cx} {e : Expr} {t t' : TE} (h : PE X e t) (i : ∀ σ H Q, t' σ H Q → t σ H Q) : PE X e t' := fun pins s σ H Q I q => h pins s σ H Q I (i σ H Q q)
theorem _root_.L2.PT.imp {X : Cx} {e : Expr} {t t' : TT} (h : PT X e t) (i : ∀ σ H Q, t' σ H Q → t σ H Q) : PT X e t' := fun pins s σ H Q I q => h pins s σ H Q I (i σ H Q q)
theorem _root_.L2.PW.imp {X : Cx} {e : Expr} {t t' : TT} (h : PW X e t) (i : ∀ σ H Q, t' σ H Q → t σ H Q) : PW X e t' := fun wh pins s σ H Q I q => h wh pins s σ H Q I (i σ H Q q)
theorem _root_.L2.PA.imp {X : Cx} {e : List Expr} {t t' : TA} (h : PA X e t) (i : ∀ σ H Q, t' σ H Q → t σ H Q) : PA X e t' := fun pos pins s σ H Q I q => h pos pins s σ H Q I (i σ H Q q)
theorem _root_.L2.PS.imp {X : Cx} {e : Stmt} {t t' : TS} (h : PS X e t) (i : ∀ D σ H, t' D σ H → t D σ H) : PS X e t' := fun pins s σ H D I q => h pins s σ H D I (i D σ H q)
theorem _root_.L2.PSs.imp {X : Cx} {e : List Stmt} {t t' : TS} (h : PSs X e t) (i : ∀ D σ H, t' D σ H → t D σ H) : PSs X e t' := fun pins s σ H D I q => h pins s σ H D I (i D σ H q)
end L2.LW
set_option maxHeartbeats 4000000
namespace L2.LW
open PySem PySem.Spec PyProof.Rows
noncomputable def VR (K : PySem.W.Frag) (f : List D → Option SV) (vs : List V) (H : Hp) (Q : VK) : Prop :=
  ∃ W ds r, Wf W H ∧ Paired (Sees K W H) ds vs ∧ f ds = some r ∧ ∀ v H', Same H H' → Res K W H H' r v → Q v H'
noncomputable def VR2 (K : PySem.W.Frag) (f : List D → Option SV) : R2 := fun x y H Q => VR K f [x, y] H Q
theorem pr1 {α β : Type} {F : α → β → Prop} {ds : List α} {x : β} (h : Paired F ds [x]) : ∃ d, ds = [d] ∧ F d x := by
  cases h with
  | cons h t => cases t; exact ⟨_, rfl, h⟩
theorem pr2 {α β : Type} {F : α → β → Prop} {ds : List α} {x y : β} (h : Paired F ds [x, y]) : ∃ d e, ds = [d, e] ∧ F d x ∧ F e y := by
  cases h with
  | cons h t =>
    obtain ⟨e, rfl, h2⟩ := pr1 t
    exact ⟨_, e, rfl, h, h2⟩
mutual
noncomputable def zct : D → PyData
  | .int i => .int i
  | .bl b => .bool b
  | .non => .none
  | .str x => .str x
  | .tup l => .tuple (zcA l)
  | .lst l => .list (zcA l)
  | .dct _ _ _ => .dict []
noncomputable def zcA : List D → List PyData
  | [] => []
  | x :: xs => zct x :: zcA xs
end
mutual
theorem zfy : ∀ d e : D, PyData.eqv (zct d) (zct e) = eqD d e
  | .int a, e => by cases e <;> simp [zct, PyData.eqv, eqD]
  | .bl a, e => by cases e <;> simp [zct, PyData.eqv, eqD]
  | .non, e => by cases e <;> simp [zct, PyData.eqv, eqD]
  | .str a, e => by cases e <;> simp [zct, PyData.eqv, eqD]
  | .tup l, e => by
    cases e with
    | tup m => simp only [zct, PyData.eqv, eqD]; exact zeI l m
    | _ => simp [zct, PyData.eqv, eqD]
  | .lst l, e => by
    cases e with
    | lst m => simp only [zct, PyData.eqv, eqD]; exact zeI l m
    | _ => simp [zct, PyData.eqv, eqD]
  | .dct t a b, e => by cases e <;> simp [zct, PyData.eqv, eqD]
theorem zeI : ∀ ds es : List D, PyData.eqvAll (zcA ds) (zcA es) = zli ds es
  | [], [] => by simp [zcA, PyData.eqvAll, zli]
  | [], _ :: _ => by simp [zcA, PyData.eqvAll, zli]
  | _ :: _, [] => by simp [zcA, PyData.eqvAll, zli]
  | x :: xs, y :: ys => by simp only [zcA, PyData.eqvAll, zli]; rw [zfy x y, zeI xs ys]
end
theorem zdT {n : Nat} (ih : ∀ d, zb5 n d = true → (zct d).canLay0 = true ∧ (zct d).depth ≤ n) : ∀ l : List D, l.all (zb5 n) = true → PyData.canLayAll0 (zcA l) = true ∧ PyData.depthAll (zcA l) ≤ n
  | [], _ => by simp [zcA, PyData.canLayAll0, PyData.depthAll]
  | x :: xs, h => by
    simp only [List.all_cons, Bool.and_eq_true] at h
    obtain ⟨h1, h2⟩ := ih x h.1
    obtain ⟨h3, h4⟩ := zdT ih xs h.2
    refine ⟨by simp [zcA, PyData.canLayAll0, h1, h3], ?_⟩
    simp only [zcA, PyData.depthAll]
    omega
theorem zbb : ∀ (n : Nat) (d : D), zb5 n d = true → (zct d).canLay0 = true ∧ (zct d).depth ≤ n
  | _, .int _, _ => by simp [zct, PyData.canLay0, PyData.depth]
  | _, .bl _, _ => by simp [zct, PyData.canLay0, PyData.depth]
  | _, .non, _ => by simp [zct, PyData.canLay0, PyData.depth]
  | _, .str _, h => by simp [zb5] at h
  | 0, .dct _ _ _, h => by simp [zb5] at h
  | _ + 1, .dct _ _ _, h => by simp [zb5] at h
  | 0, .tup _, h => by simp [zb5] at h
  | 0, .lst _, h => by simp [zb5] at h
  | n + 1, .tup l, h => by
    obtain ⟨h1, h2⟩ := zdT (zbb n) l (by simpa [zb5] using h)
    exact ⟨by simpa [zct, PyData.canLay0] using h1, by simp only [zct, PyData.depth]; omega⟩
  | n + 1, .lst l, h => by
    obtain ⟨h1, h2⟩ := zdT (zbb n) l (by simpa [zb5] using h)
    exact ⟨by simpa [zct, PyData.canLay0] using h1, by simp only [zct, PyData.depth]; omega⟩
theorem zdc (d : D) : ∀ l : List D, ((zcA l).any fun y => PyData.eqv y (zct d)) = l.any fun y => eqD y d
  | [] => by simp [zcA]
  | x :: xs => by simp only [zcA, List.any_cons]; rw [zfy x d, zdc d xs]
section
variable {X : Cx} {pins : List (Addr × Obj)} {σ : St} {H : Hp} {s : Shared} {W : Addr → Prop}
mutual
theorem Rep.reads (I : Inv X pins σ H s) : ∀ {n : Nat} {d : D} {x : V} {v : Value}, zb5 n d = true → Rep X.K W H d x → RelV x v → ∃ as, Reads s.heap v (zct d) as
  | _, _, _, _, _, .int i, r => by obtain ⟨t, rfl⟩ := r; exact ⟨_, .int _ _⟩
  | _, _, _, _, _, .bl b, r => by cases r; exact ⟨_, .bool _⟩
  | _, _, _, _, _, .non, r => by cases r; exact ⟨_, .none⟩
  | _, _, _, _, _, .str x, r => by obtain ⟨t, rfl⟩ := r; exact ⟨_, .str _ _⟩
  | 0, _, _, _, n, .tup h rs, r => by simp [zb5] at n
  | 0, _, _, _, n, .lst h rs, r => by simp [zb5] at n
  | _ + 1, _, _, _, n, .tup h rs, r => by
    cases r
    obtain ⟨its, rv, ⟨o, ho, hc, m, hd⟩, hz⟩ := I.tuple (.of h)
    obtain ⟨as, q⟩ := Reps.reads I (by simpa [zb5] using n) rs rv
    exact ⟨as, by simp only [zct]; exact .tuple ho hc hd (by simpa using q)⟩
  | _ + 1, _, _, _, n, .lst h rs, r => by
    cases r
    obtain ⟨its, rv, ⟨o, m, ho, hc, _, hd⟩, hz⟩ := I.list (show SqL X.K H _ _ from h.elim (fun z => .inl z.2) fun z => .inr z)
    obtain ⟨as, q⟩ := Reps.reads I (by simpa [zb5] using n) rs rv
    exact ⟨_, by simp only [zct]; exact .list ho hc hd (by simpa using q)⟩
  | 0, _, _, _, n, .dK _ _ _ _, r => by simp [zb5] at n
  | 0, _, _, _, n, .dT _ _ _ _, r => by simp [zb5] at n
  | _ + 1, _, _, _, n, .dK _ _ _ _, r => by simp [zb5] at n
  | _ + 1, _, _, _, n, .dT _ _ _ _, r => by simp [zb5] at n
theorem Reps.reads (I : Inv X pins σ H s) : ∀ {n : Nat} {ds : List D} {xs : List V} {vs : List Value}, ds.all (zb5 n) = true → Reps X.K W H ds xs → Vals xs vs → ∃ as, ReadsAll s.heap vs (zcA ds) as
  | _, _, _, _, _, .nil, r => by cases r; exact ⟨_, by simp only [zcA]; exact .nil⟩
  | _, _, _, _, n, .cons h t, r => by
    cases r with
    | cons r1 r2 =>
      simp only [List.all_cons, Bool.and_eq_true] at n
      obtain ⟨as, q1⟩ := Rep.reads I n.1 h r1
      obtain ⟨bs, q2⟩ := Reps.reads I n.2 t r2
      exact ⟨_, by simp only [zcA]; exact .cons q1 q2⟩
end
theorem Sees.reads (I : Inv X pins σ H s) {n : Nat} {d : D} {x : V} {v : Value} (hn : zb5 n d = true) (h : Sees X.K W H d x) (r : RelV x v) : ∃ as, Reads s.heap v (zct d) as := by
  rcases h with h | ⟨a, o, rfl, e, rs⟩
  · exact h.reads I hn r
  · cases r
    cases rs with
    | lst rs =>
      obtain ⟨its, rv, ⟨o, m, ho, hc, _, hd⟩, hz⟩ := I.list (show SqL X.K H _ _ from .of e)
      cases n with
      | zero => simp [zb5] at hn
      | succ n =>
        obtain ⟨as, q⟩ := rs.reads I (n := n) (by simpa [zb5] using hn) rv
        exact ⟨_, by simp only [zct]; exact .list ho hc hd (by simpa using q)⟩
    | dK l r => cases n <;> simp [zb5] at hn
    | dT l r => cases n <;> simp [zb5] at hn
theorem Sees.readsL (I : Inv X pins σ H s) {n : Nat} {l : List D} {x : V} {v : Value} (hn : l.all (zb5 n) = true) (h : Sees X.K W H (.lst l) x) (r : RelV x v) : ∃ as, Reads s.heap v (zct (.lst l)) as :=
  h.reads I (n := n + 1) (by simpa [zb5] using hn) r
theorem Sees.readsT (I : Inv X pins σ H s) {n : Nat} {l : List D} {x : V} {v : Value} (hn : l.all (zb5 n) = true) (h : Sees X.K W H (.tup l) x) (r : RelV x v) : ∃ as, Reads s.heap v (zct (.tup l)) as :=
  h.reads I (n := n + 1) (by simpa [zb5] using hn) r
end
theorem zaP {H : Hp} {p : Addr} (h : H p = Option.none) (o : HO) : Same H (upd H p o) := fun b u q => by rw [za3 (zbu q h)]; exact q
theorem zeJ {K : PySem.W.Frag} {W : Addr → Prop} {H : Hp} {p : Addr} {ds : List D} {xs : List V} (hp : H p = Option.none) (r : Reps K W H ds xs) : Res K W H (upd H p (.lst xs)) (.lis true ds) (.ref p) := by
  refine .new hp za9 (.lst (r.ext ⟨fun a o h _ => zaP hp _ a o h, fun a xs h => zaP hp _ a _ h, fun a o u h => zaP hp _ a _ h, fun a w => ?_⟩))
  rcases w with w | rfl
  · exact .inl w
  · exact .inr hp
theorem zfO {K : PySem.W.Frag} {W : Addr → Prop} {H : Hp} {p : Addr} {ds : List D} {xs : List V} (hp : H p = Option.none) (r : Reps K W H ds xs) : Res K W H (upd H p (.tup xs)) (.val (.tup ds)) (.ref p) :=
  .val (.tup za9 (r.ext (.same (zaP hp _))))
section
variable {X : Cx}
theorem zfP : line = sizeLine := by rw [sizeLine_eq]; rfl
theorem zdU : ∀ {l : List D} {ns : List Int}, ints? l = some ns → l = ns.map D.int
  | [], ns, e => by simp [ints?] at e; subst e; rfl
  | d :: r, ns, e => by
    cases d with
    | int i =>
      simp only [ints?, jo2] at e
      obtain ⟨ms, e1, rfl⟩ := e
      rw [zdU e1]; rfl
    | _ => simp [ints?] at e
theorem zeK (ns : List Int) : (ns.map Sum.inl).map kV = ns.map V.int := by
  rw [List.map_map]; rfl
theorem zd9 : ∀ (a b : List Int), zli (a.map D.int) (b.map D.int) = decide (a = b)
  | [], [] => by simp [zli]
  | [], _ :: _ => by simp [zli]
  | _ :: _, [] => by simp [zli]
  | x :: xs, y :: ys => by
    rw [Bool.eq_iff_iff]
    simp [zli, eqD, zd9 xs ys]
theorem zlk {a b : List Int} (h : (a.map Sum.inl : List Key) = b.map Sum.inl) : a = b := (List.map_inj_right (fun _ _ z => Sum.inl.inj z)).mp h
theorem zll (k d : D) (ks : List D) : kix (d :: ks) k = if eqD d k then some 0 else (kix ks k).map (· + 1) := by
  unfold kix; rw [List.findIdx?_cons]
theorem znM : ∀ {ns : List Int} {ys : List V}, ns.length = ys.length → ∀ i : Int, zgZ (ziT ns ys) (.inl i) = (kix (ns.map D.int) (.int i)).bind fun j => ys[j]?
  | [], [], _, i => rfl
  | n :: ns, y :: ys, h, i => by
    have ih := znM (ns := ns) (ys := ys) (by simpa using h) i
    show zgZ ((Sum.inl n, y) :: ziT ns ys) (.inl i) = _
    rw [List.map_cons, zll]
    by_cases e : n = i
    · rw [zd6 (by simp [e])]; simp [eqD, e]
    · rw [zd7 (by simp [e]), ih]
      have : eqD (.int n) (.int i) = false := by simp [eqD, e]
      rw [this]
      cases kix (ns.map D.int) (.int i) <;> simp
theorem znN : ∀ {ns : List (List Int)} {ys : List V}, ns.length = ys.length → ∀ i : List Int, zgZ (zd8 ns ys) (i.map Sum.inl) = (kix (ns.map kT) (kT i)).bind fun j => ys[j]?
  | [], [], _, i => rfl
  | n :: ns, y :: ys, h, i => by
    have ih := znN (ns := ns) (ys := ys) (by simpa using h) i
    show zgZ ((n.map Sum.inl, y) :: zd8 ns ys) (i.map Sum.inl) = _
    rw [List.map_cons, zll]
    by_cases e : n = i
    · rw [zd6 (by simp [e])]
      have : eqD (kT n) (kT i) = true := by simp [kT, eqD, zd9, e]
      rw [this]; rfl
    · rw [zd7 (fun z => e (zlk z)), ih]
      have : eqD (kT n) (kT i) = false := by simp [kT, eqD, zd9, e]
      rw [this]
      cases kix (ns.map kT) (kT i) <;> simp
theorem zq4 {ks : List D} {k : D} {j : Nat} (h : kix ks k = some j) : j < ks.length := by
  unfold kix at h
  obtain ⟨h1, _⟩ := List.findIdx?_eq_some_iff_getElem.mp h
  exact h1
theorem zkn {ns : List Int} {ys : List V} (h : ns.length = ys.length) {i : Int} : (zgZ (ziT ns ys) (.inl i)).isSome = (kix (ns.map D.int) (.int i)).isSome := by
  rw [znM h]
  cases e : kix (ns.map D.int) (.int i) with
  | none => rfl
  | some j => have := zq4 e; simp at this; simp; omega
theorem zko {ns : List (List Int)} {ys : List V} (h : ns.length = ys.length) {i : List Int} : (zgZ (zd8 ns ys) (i.map Sum.inl)).isSome = (kix (ns.map kT) (kT i)).isSome := by
  rw [znN h]
  cases e : kix (ns.map kT) (kT i) with
  | none => rfl
  | some j => have := zq4 e; simp at this; simp; omega
theorem zxK {K : PySem.W.Frag} {W : Addr → Prop} {H : Hp} {ns : List Int} {ys : List V} {vs : List D} {i : Int} {d : D} (h : ns.length = ys.length) (r : Reps K W H vs ys) (e : zr1 (ns.map D.int) vs (.int i) = some d) : ∃ y, zgZ (ziT ns ys) (.inl i) = some y ∧ Rep K W H d y := by
  unfold zr1 at e
  rw [jo1] at e
  obtain ⟨j, e1, e2⟩ := e
  obtain ⟨y, e3, e4⟩ := r.get e2
  exact ⟨y, by rw [znM h, e1]; exact e3, e4⟩
theorem zxL {K : PySem.W.Frag} {W : Addr → Prop} {H : Hp} {ns : List (List Int)} {ys : List V} {vs : List D} {i : List Int} {d : D} (h : ns.length = ys.length) (r : Reps K W H vs ys) (e : zr1 (ns.map kT) vs (kT i) = some d) : ∃ y, zgZ (zd8 ns ys) (i.map Sum.inl) = some y ∧ Rep K W H d y := by
  unfold zr1 at e
  rw [jo1] at e
  obtain ⟨j, e1, e2⟩ := e
  obtain ⟨y, e3, e4⟩ := r.get e2
  exact ⟨y, by rw [znN h, e1]; exact e3, e4⟩
theorem zbC : OpR X (binaryOp .Add) (VR2 X.K (zal .add)) := by
  rintro pins s σ H x y v u Q I rx ry ⟨W, ds, r, wf, hs, hf, q⟩
  obtain ⟨d, e, rfl, h1, h2⟩ := pr2 hs
  replace hf : zwh [d, e] = some r := hf
  unfold zwh at hf
  split at hf
  · rename_i a b z; cases z; cases hf
    cases h1.int; cases h2.int
    exact ztL pins s σ H _ _ v u Q I rx ry ⟨_, _, rfl, rfl, q _ H (.refl H) (.val (.int _))⟩
  · rename_i a b z; cases z
    split at hf
    · rename_i hl
      cases hf
      obtain ⟨p, xs, rfl, hp, rp⟩ := h1.lst
      obtain ⟨p2, xs2, rfl, hp2, rp2⟩ := h2.lst
      cases rx; cases ry
      obtain ⟨its, rv, ⟨⟨c1, d1, da1, sl1⟩, n, ho, hc, hdd, hd⟩, hz⟩ := I.list hp
      obtain ⟨its2, rv2, ⟨⟨c2, d2, da2, sl2⟩, n2, ho2, hc2, hdd2, hd2⟩, hz2⟩ := I.list hp2
      simp only at hc hd hdd hc2 hd2 hdd2
      subst hc hd hdd hc2 hd2 hdd2
      have l1 := rv.length
      have l2 := rv2.length
      have l3 := rp.length
      have l4 := rp2.length
      have le := zfP
      refine concat_meets ⟨_, ho, rfl⟩ ⟨_, ho2, rfl⟩ noFill_list_add seq_list_add PySem.F.slot_list_add PySem.F.entry_list_add (PySem.F.args_list_add_2 _ _) (list_addW p p2 its.toArray its2.toArray n n2 Option.none Option.none sl1 sl2 (by simp; omega)) ⟨ho, ho2, ?_⟩
      have e : its.toArray ++ its2.toArray = (its ++ its2).toArray := by simp
      rw [e]
      exact ⟨.ref _, _, I.lnew (t' := s.toks) (rv.append rv2) (by rw [List.length_append]; omega), rfl, q _ _ (zaP I.fresh _) (zeJ I.fresh (rp.append rp2))⟩
    · cases hf
  · cases hf
theorem zeY : OpR X (binaryOp .Sub) (VR2 X.K (zal .sub)) := by
  rintro pins s σ H x y v u Q I rx ry ⟨W, ds, r, wf, hs, hf, q⟩
  obtain ⟨d, e, rfl, h1, h2⟩ := pr2 hs
  replace hf : zxv [d, e] = some r := hf
  unfold zxv at hf
  split at hf
  · rename_i a b z; cases z; cases hf
    cases h1.int; cases h2.int
    exact ztM pins s σ H _ _ v u Q I rx ry ⟨_, _, rfl, rfl, q _ H (.refl H) (.val (.int _))⟩
  · cases hf
theorem zfQ : OpR X (binaryOp .Mult) (VR2 X.K (zal .mul)) := by
  rintro pins s σ H x y v u Q I rx ry ⟨W, ds, r, wf, hs, hf, q⟩
  obtain ⟨d, e, rfl, h1, h2⟩ := pr2 hs
  replace hf : ztk [d, e] = some r := hf
  unfold ztk at hf
  split at hf
  · rename_i a b z; cases z
    split at hf
    · rename_i hc
      cases hf
      cases h1.int; cases h2.int
      exact ztN pins s σ H _ _ v u Q I rx ry ⟨_, _, rfl, rfl, hc, q _ H (.refl H) (.val (.int _))⟩
    · cases hf
  · cases hf
theorem zhz : OpR X (binaryOp .FloorDiv) (VR2 X.K (zal .fdiv)) := by
  rintro pins s σ H x y v u Q I rx ry ⟨W, ds, r, wf, hs, hf, q⟩
  obtain ⟨d, e, rfl, h1, h2⟩ := pr2 hs
  replace hf : zpL [d, e] = some r := hf
  unfold zpL at hf
  split at hf
  · rename_i a b z; cases z
    split at hf
    · rename_i hc
      cases hf
      cases h1.int; cases h2.int
      exact zrL pins s σ H _ _ v u Q I rx ry ⟨_, _, rfl, rfl, hc, q _ H (.refl H) (.val (.int _))⟩
    · cases hf
  · cases hf
theorem zdG : OpR X (binaryOp .Mod) (VR2 X.K (zal .mod)) := by
  rintro pins s σ H x y v u Q I rx ry ⟨W, ds, r, wf, hs, hf, q⟩
  obtain ⟨d, e, rfl, h1, h2⟩ := pr2 hs
  replace hf : zwi [d, e] = some r := hf
  unfold zwi at hf
  split at hf
  · rename_i a b z; cases z
    split at hf
    · rename_i hc
      cases hf
      cases h1.int; cases h2.int
      exact ztO pins s σ H _ _ v u Q I rx ry ⟨_, _, rfl, rfl, hc, q _ H (.refl H) (.val (.int _))⟩
    · cases hf
  · cases hf
theorem zup {A : Around} (hu : A.units + 64 < cLine) {d e : D} (h : zb5 8 d = true) : A.units + min (zct d).depth (zct e).depth < cLine := by
  have h1 := (zbb 8 d h).2
  have h2 : min (zct d).depth (zct e).depth ≤ (zct d).depth := Nat.min_le_left _ _
  omega
theorem zeL (hu : X.A.units + 64 < cLine) : OpR X (compareOp .Eq) (VR2 X.K (zal .eq)) := by
  rintro pins s σ H x y v u Q I rx ry ⟨W, ds, r, wf, hs, hf, q⟩
  obtain ⟨d, e, rfl, h1, h2⟩ := pr2 hs
  replace hf : pEq [d, e] = some r := hf
  simp only [pEq] at hf
  split at hf
  · rename_i hc
    rw [Bool.and_eq_true] at hc
    cases hf
    obtain ⟨as, ra⟩ := h1.reads I hc.1 rx
    obtain ⟨bs, rb⟩ := h2.reads I hc.2 ry
    refine SeqAt.compareEq_reads ra rb (zbb 8 d hc.1).1 (zbb 8 e hc.2).1 (zup hu hc.1) ?_
    rw [zfy]
    exact ⟨.bl _, H, I, rfl, q _ H (.refl H) (.val (.bl _))⟩
  · cases hf
theorem zuq (hu : X.A.units + 64 < cLine) : OpR X (compareOp .NotEq) (VR2 X.K (zal .ne)) := by
  rintro pins s σ H x y v u Q I rx ry ⟨W, ds, r, wf, hs, hf, q⟩
  obtain ⟨d, e, rfl, h1, h2⟩ := pr2 hs
  replace hf : pNe [d, e] = some r := hf
  simp only [pNe] at hf
  split at hf
  · rename_i hc
    rw [Bool.and_eq_true] at hc
    cases hf
    obtain ⟨as, ra⟩ := h1.reads I hc.1 rx
    obtain ⟨bs, rb⟩ := h2.reads I hc.2 ry
    refine SeqAt.compareNe_reads ra rb (zbb 8 d hc.1).1 (zbb 8 e hc.2).1 (zup hu hc.1) ?_
    rw [zfy]
    exact ⟨.bl _, H, I, rfl, q _ H (.refl H) (.val (.bl _))⟩
  · cases hf
theorem zpV {A : Around} (hu : A.units + 64 < cLine) {d : D} {l : List PyData} (h : zb5 8 d = true) : A.units + 1 + min (PyData.depthAll l) (zct d).depth < cLine := by
  have h1 := (zbb 8 d h).2
  have h2 : min (PyData.depthAll l) (zct d).depth ≤ (zct d).depth := Nat.min_le_right _ _
  omega
theorem zur (hu : X.A.units + 64 < cLine) : OpR X (compareOp .In) (VR2 X.K (zal .inn)) := by
  rintro pins s σ H x y v u Q I rx ry ⟨W, ds, r, wf, hs, hf, q⟩
  obtain ⟨d, e, rfl, h1, h2⟩ := pr2 hs
  replace hf : pIn [d, e] = some r := hf
  unfold pIn at hf
  split at hf
  · rename_i x t ks vs z; cases z
    split at hf
    · rename_i hk
      cases hf
      cases t with
      | false =>
        cases d with
        | int i =>
          cases h1.int
          obtain ⟨a, ns, ys, rfl, rfl, hH, hl, _⟩ := h2.dK
          cases ry
          exact zyB (by omega) I (DGet.k (k := .inl i) hH) rx fun s' I' => ⟨.bl _, H, I', rfl, q _ H (.refl H) (.val (by rw [zkn hl]; exact .bl _))⟩
        | _ => simp [zbS] at hk
      | true =>
        cases d with
        | tup l =>
          obtain ⟨ms, hms⟩ : ∃ ms, ints? l = some ms := by simp only [zbS, Option.isSome_iff_exists] at hk; exact hk
          obtain ⟨b, xs, rfl, hb, rp⟩ := h1.tupH
          obtain ⟨a, ns, ys, rfl, rfl, hH, hl, _⟩ := h2.dT
          cases ry
          have e1 := rp.ofInts hms
          have e2 := zdU hms
          subst e1 e2
          exact zyB (by omega) I (DGet.t (k := ms.map Sum.inl) hH (by rw [hb, zeK])) rx fun s' I' => ⟨.bl _, H, I', rfl, q _ H (.refl H) (.val (by rw [zko hl]; exact .bl _))⟩
        | _ => simp [zbS] at hk
    · cases hf
  · rename_i d l z; cases z
    split at hf
    · rename_i hc
      rw [Bool.and_eq_true] at hc
      cases hf
      obtain ⟨as, ra⟩ := h1.reads I hc.1 rx
      obtain ⟨bs, rb⟩ := h2.readsT I hc.2 ry
      simp only [zct] at rb
      refine SeqAt.in_tuple_reads rb ra (zdT (zbb 8) l hc.2).1 (zbb 8 d hc.1).1 (zpV hu hc.1) ?_
      rw [zdc]
      exact ⟨.bl _, H, I, rfl, q _ H (.refl H) (.val (.bl _))⟩
    · cases hf
  · rename_i d l z; cases z
    split at hf
    · rename_i hc
      rw [Bool.and_eq_true] at hc
      cases hf
      obtain ⟨as, ra⟩ := h1.reads I hc.1 rx
      obtain ⟨bs, rb⟩ := h2.readsL I hc.2 ry
      simp only [zct] at rb
      refine SeqAt.in_list_reads rb ra (zdT (zbb 8) l hc.2).1 (zbb 8 d hc.1).1 (zpV hu hc.1) ?_
      rw [zdc]
      exact ⟨.bl _, H, I, rfl, q _ H (.refl H) (.val (.bl _))⟩
    · cases hf
  · cases hf
theorem zeZ (hu : X.A.units + 64 < cLine) : OpR X (compareOp .NotIn) (VR2 X.K (zal .nin)) := by
  rintro pins s σ H x y v u Q I rx ry ⟨W, ds, r, wf, hs, hf, q⟩
  obtain ⟨d, e, rfl, h1, h2⟩ := pr2 hs
  replace hf : zqW [d, e] = some r := hf
  unfold zqW at hf
  split at hf
  · rename_i x t ks vs z; cases z
    split at hf
    · rename_i hk
      cases hf
      cases t with
      | false =>
        cases d with
        | int i =>
          cases h1.int
          obtain ⟨a, ns, ys, rfl, rfl, hH, hl, _⟩ := h2.dK
          cases ry
          exact znv (by omega) I (DGet.k (k := .inl i) hH) rx fun s' I' => ⟨.bl _, H, I', rfl, q _ H (.refl H) (.val (by rw [zkn hl]; exact .bl _))⟩
        | _ => simp [zbS] at hk
      | true =>
        cases d with
        | tup l =>
          obtain ⟨ms, hms⟩ : ∃ ms, ints? l = some ms := by simp only [zbS, Option.isSome_iff_exists] at hk; exact hk
          obtain ⟨b, xs, rfl, hb, rp⟩ := h1.tupH
          obtain ⟨a, ns, ys, rfl, rfl, hH, hl, _⟩ := h2.dT
          cases ry
          have e1 := rp.ofInts hms
          have e2 := zdU hms
          subst e1 e2
          exact znv (by omega) I (DGet.t (k := ms.map Sum.inl) hH (by rw [hb, zeK])) rx fun s' I' => ⟨.bl _, H, I', rfl, q _ H (.refl H) (.val (by rw [zko hl]; exact .bl _))⟩
        | _ => simp [zbS] at hk
    · cases hf
  · rename_i d l z; cases z
    split at hf
    · rename_i hc
      rw [Bool.and_eq_true] at hc
      cases hf
      obtain ⟨as, ra⟩ := h1.reads I hc.1 rx
      obtain ⟨bs, rb⟩ := h2.readsT I hc.2 ry
      simp only [zct] at rb
      refine SeqAt.notIn_tuple_reads rb ra (zdT (zbb 8) l hc.2).1 (zbb 8 d hc.1).1 (zpV hu hc.1) ?_
      rw [zdc]
      exact ⟨.bl _, H, I, rfl, q _ H (.refl H) (.val (.bl _))⟩
    · cases hf
  · rename_i d l z; cases z
    split at hf
    · rename_i hc
      rw [Bool.and_eq_true] at hc
      cases hf
      obtain ⟨as, ra⟩ := h1.reads I hc.1 rx
      obtain ⟨bs, rb⟩ := h2.readsL I hc.2 ry
      simp only [zct] at rb
      refine SeqAt.notIn_list_reads rb ra (zdT (zbb 8) l hc.2).1 (zbb 8 d hc.1).1 (zpV hu hc.1) ?_
      rw [zdc]
      exact ⟨.bl _, H, I, rfl, q _ H (.refl H) (.val (.bl _))⟩
    · cases hf
  · cases hf
theorem zlm : ∀ x y : List Int, LW.lexLt x y = HT.lexLt x y
  | [], [] => rfl
  | [], _ :: _ => rfl
  | _ :: _, [] => rfl
  | a :: x, b :: y => by rw [HT.lexLt_cons, LW.lexLt, zlm x y]
theorem zsh (hu : X.A.units + 64 < cLine) : OpR X (compareOp .Lt) (VR2 X.K (zal .lt)) := by
  rintro pins s σ H x y v u Q I rx ry ⟨W, ds, r, wf, hs, hf, q⟩
  obtain ⟨d, e, rfl, h1, h2⟩ := pr2 hs
  replace hf : pLt [d, e] = some r := hf
  unfold pLt at hf
  split at hf
  · rename_i a b z; cases z; cases hf
    cases h1.int; cases h2.int
    exact zxi pins s σ H _ _ v u Q I rx ry ⟨_, _, rfl, rfl, q _ H (.refl H) (.val (.bl _))⟩
  · rename_i a b z; cases z
    simp only [jo1] at hf
    obtain ⟨ns, e1, ms, e2, hf⟩ := hf
    cases hf
    obtain ⟨p, xs, rfl, hp, rp⟩ := h1.tup
    obtain ⟨p2, xs2, rfl, hp2, rp2⟩ := h2.tup
    rw [rp.ofInts e1] at hp
    rw [rp2.ofInts e2] at hp2
    refine ztW (by omega) pins s σ H _ _ v u Q I rx ry ⟨_, _, ns, ms, rfl, rfl, hp, hp2, ?_⟩
    rw [← zlm]
    exact q _ H (.refl H) (.val (.bl _))
  · cases hf
theorem ziU : OpR X (compareOp .LtE) (VR2 X.K (zal .le)) := by
  rintro pins s σ H x y v u Q I rx ry ⟨W, ds, r, wf, hs, hf, q⟩
  obtain ⟨d, e, rfl, h1, h2⟩ := pr2 hs
  replace hf : pLe [d, e] = some r := hf
  unfold pLe at hf
  split at hf
  · rename_i a b z; cases z; cases hf
    cases h1.int; cases h2.int
    exact zxj pins s σ H _ _ v u Q I rx ry ⟨_, _, rfl, rfl, q _ H (.refl H) (.val (.bl _))⟩
  · cases hf
theorem znO : OpR X (compareOp .Gt) (VR2 X.K (zal .gt)) := by
  rintro pins s σ H x y v u Q I rx ry ⟨W, ds, r, wf, hs, hf, q⟩
  obtain ⟨d, e, rfl, h1, h2⟩ := pr2 hs
  replace hf : pGt [d, e] = some r := hf
  unfold pGt at hf
  split at hf
  · rename_i a b z; cases z; cases hf
    cases h1.int; cases h2.int
    exact zxk pins s σ H _ _ v u Q I rx ry ⟨_, _, rfl, rfl, q _ H (.refl H) (.val (.bl _))⟩
  · cases hf
theorem znP {K : PySem.W.Frag} {W : Addr → Prop} {H : Hp} {ds : List D} {xs : List V} {i : Int} {d : D} (r : Reps K W H ds xs) (h : LW.atI ds i = some d) : ∃ x, L2.atI xs i = some x ∧ Rep K W H d x := by
  unfold LW.atI at h
  unfold L2.atI
  rw [jo1] at h
  obtain ⟨j, h1, h2⟩ := h
  obtain ⟨x, e, q⟩ := r.get h2
  refine ⟨x, ?_, q⟩
  rw [← r.length]
  rw [jo1]
  exact ⟨j, h1, e⟩
theorem znQ {value slice : Expr} {pins : List (Addr × Obj)} {s : Shared} {σ : St} {H : Hp} {a : Addr} {y v : V} {u : Value} {Q : VK} (hu : X.A.units + 64 < cLine) (I : Inv X pins σ H s) (g : DGet H a y (some v)) (ry : RelV y u) (q : Q v H)
    (hs : subscripted slice false (.ref a) u = operate [.ref a, u] (getItem (.ref a) u)) : wpAny (model X.prog X.w) X.A (subscriptTail value slice (.ref a) u) (EP X pins σ Q) X.xe s := by
  have hT := zkl I g
  unfold subscriptTail
  refine wpAny_bind ?_
  rw [getitemInPython_of_ne hT.not_modules]
  refine wpAny_bind (wpAny_specialOf hT PySem.F.slot_dict_getitem.lookup ?_)
  have fin : wpAny (model X.prog X.w) X.A (subscripted slice false (.ref a) u) (fun r s₃ => wpAny (model X.prog X.w) X.A (letTemporaryGo value (.ref a) r >>= fun _ => pure r) (EP X pins σ Q) X.xe s₃) X.xe s := by
    rw [hs]
    refine wpAny_operating (wpAny_mono (znu (Q := EP X pins σ Q) (by omega) I g ry fun w' s' I' rv => ⟨v, H, I', rv, q⟩) (fun r s₃ h₃ => wpAny_bind (wpAny_letTemporaryGo (wpAny_pure h₃))) fun _ _ x => x)
  first
    | exact wpAny_pure (wpAny_bind fin)
    | exact wpAny_bind (wpAny_pure (wpAny_bind fin))
    | exact wpAny_pure (wpAny_bind (wpAny_pure (wpAny_bind fin)))
    | exact wpAny_bind (wpAny_bind (wpAny_pure fin))
theorem zus (hu : X.A.units + 64 < cLine) : IxR X (VR2 X.K (zal .idx)) := by
  rintro value slice pins s σ H x y v u Q I rx ry ⟨W, ds, r, wf, hs, hf, q⟩ hsub
  obtain ⟨d, e, rfl, h1, h2⟩ := pr2 hs
  replace hf : zwj [d, e] = some r := hf
  unfold zwj at hf
  split at hf
  · rename_i t ks vs k z; cases z
    split at hf
    · rename_i hk
      rw [jo2] at hf
      obtain ⟨d', e1, rfl⟩ := hf
      cases t with
      | false =>
        cases e with
        | int i =>
          cases h2.int
          obtain ⟨a, ns, ys, rfl, rfl, hH, hl, rp⟩ := h1.dK
          cases rx
          obtain ⟨y, e2, ry'⟩ := zxK hl rp e1
          exact znQ hu I (by rw [← e2]; exact DGet.k (k := .inl i) hH) ry (q _ H (.refl H) (.val ry')) hsub
        | _ => simp [zbS] at hk
      | true =>
        cases e with
        | tup l =>
          obtain ⟨ms, hms⟩ : ∃ ms, ints? l = some ms := by simp only [zbS, Option.isSome_iff_exists] at hk; exact hk
          obtain ⟨b, xs, rfl, hb, rpb⟩ := h2.tupH
          obtain ⟨a, ns, ys, rfl, rfl, hH, hl, rp⟩ := h1.dT
          cases rx
          have z1 := rpb.ofInts hms
          have z2 := zdU hms
          subst z1 z2
          obtain ⟨y, e2, ry'⟩ := zxL hl rp e1
          exact znQ hu I (by rw [← e2]; exact DGet.t (k := ms.map Sum.inl) hH (by rw [hb, zeK])) ry (q _ H (.refl H) (.val ry')) hsub
        | _ => simp [zbS] at hk
    · cases hf
  · rename_i l i z; cases z
    rw [jo2] at hf
    obtain ⟨d, e1, rfl⟩ := hf
    obtain ⟨p, xs, rfl, hp, rp⟩ := h1.tup
    cases h2.int
    obtain ⟨z, e2, rz⟩ := znP rp e1
    exact ztX value slice pins s σ H _ _ v u Q I rx ry ⟨p, xs, i, z, rfl, rfl, hp, e2, q _ H (.refl H) (.val rz)⟩ hsub
  · rename_i l i z; cases z
    rw [jo2] at hf
    obtain ⟨d, e1, rfl⟩ := hf
    obtain ⟨p, xs, rfl, hp, rp⟩ := h1.lst
    cases h2.int
    obtain ⟨z, e2, rz⟩ := znP rp e1
    exact zrV value slice pins s σ H _ _ v u Q I rx ry ⟨p, xs, i, z, rfl, rfl, hp, e2, q _ H (.refl H) (.val rz)⟩ hsub
  · cases hf
theorem zbN : zcz X (.builtin "len") (VR X.K (zal .len)) := by
  rintro pins s σ H xs us Q I rv ⟨W, ds, r, wf, hs, hf, q⟩
  replace hf : zxw ds = some r := hf
  unfold zxw at hf
  split at hf
  · cases hf
    cases hs with
    | cons h1 t =>
      cases t
      obtain ⟨p, ys, rfl, hp, rp⟩ := h1.tup
      refine zeW pins s σ H _ us Q I rv ⟨p, ys, rfl, .inr hp, ?_⟩
      rw [← rp.length]
      exact q _ H (.refl H) (.val (.int _))
  · cases hf
    cases hs with
    | cons h1 t =>
      cases t
      obtain ⟨p, ys, rfl, hp, rp⟩ := h1.lst
      refine zeW pins s σ H _ us Q I rv ⟨p, ys, rfl, .inl hp, ?_⟩
      rw [← rp.length]
      exact q _ H (.refl H) (.val (.int _))
  · cases hf
theorem zln : zcz X (.builtin "abs") (VR X.K (zal .abs)) := by
  rintro pins s σ H xs us Q I rv ⟨W, ds, r, wf, hs, hf, q⟩
  replace hf : zxx ds = some r := hf
  unfold zxx at hf
  split at hf
  · cases hf
    cases hs with
    | cons h1 t =>
      cases t
      cases h1.int
      exact zpE pins s σ H _ us Q I rv ⟨_, rfl, q _ H (.refl H) (.val (.int _))⟩
  · cases hf
theorem zsi (hc : X.calm = true) : zcz X (.builtin "min") (VR X.K (zal .min2)) := by
  rintro pins s σ H xs us Q I rv ⟨W, ds, r, wf, hs, hf, q⟩
  replace hf : zr2 ds = some r := hf
  unfold zr2 at hf
  split at hf
  · cases hf
    cases hs with
    | cons h1 t =>
      cases t with
      | cons h2 t =>
        cases t
        cases h1.int; cases h2.int
        exact znk hc pins s σ H _ us Q I rv ⟨_, _, rfl, q _ H (.refl H) (.val (.int _))⟩
  · cases hf
theorem zsj (hc : X.calm = true) : zcz X (.builtin "max") (VR X.K (zal .max2)) := by
  rintro pins s σ H xs us Q I rv ⟨W, ds, r, wf, hs, hf, q⟩
  replace hf : zr3 ds = some r := hf
  unfold zr3 at hf
  split at hf
  · cases hf
    cases hs with
    | cons h1 t =>
      cases t with
      | cons h2 t =>
        cases t
        cases h1.int; cases h2.int
        exact znj hc pins s σ H _ us Q I rv ⟨_, _, rfl, q _ H (.refl H) (.val (.int _))⟩
  · cases hf
theorem zhA : zcz X (.type "tuple") (VR X.K (zal .toTup)) := by
  rintro pins s σ H xs us Q I rv ⟨W, ds, r, wf, hs, hf, q⟩
  replace hf : znC ds = some r := hf
  unfold znC at hf
  split at hf
  · cases hf
    cases hs with
    | cons h1 t =>
      cases t
      obtain ⟨p, ys, rfl, hp, rp⟩ := h1.tupH
      exact zd5 pins s σ H _ us Q I rv ⟨p, ys, rfl, .inr ⟨.of hp, q _ H (.refl H) (.val (.tup hp rp))⟩⟩
  · cases hf
    cases hs with
    | cons h1 t =>
      cases t
      obtain ⟨p, ys, rfl, hp, rp⟩ := h1.lst
      exact zd5 pins s σ H _ us Q I rv ⟨p, ys, rfl, .inl ⟨hp, fun l hl => q _ _ (zaP hl _) (zfO hl rp)⟩⟩
  · cases hf
end
end L2.LW
set_option maxHeartbeats 4000000
namespace L2.LW
open PySem PySem.Spec PyProof.Rows
structure IE (X : Cx) (fn : Nat → List D → Option SV) (e : Expr) (c : E) : Prop where
  h : PE X e (tE X.K fn c)
structure IA (X : Cx) (fn : Nat → List D → Option SV) (es : List Expr) (cs : Es) : Prop where
  h : PA X es (tVs X.K fn cs)
structure IT (X : Cx) (fn : Nat → List D → Option SV) (e : Expr) (c : E) : Prop where
  h : PT X e (tT X.K fn c)
structure IW (X : Cx) (fn : Nat → List D → Option SV) (e : Expr) (c : E) : Prop where
  h : PW X e (tT X.K fn c)
theorem Res.back {K : PySem.W.Frag} {W : Addr → Prop} {H H1 H2 : Hp} {r : SV} {v : V} (h : Res K W H1 H2 r v) (s : Same H H1) : Res K W H H2 r v := by
  cases h with
  | val h => exact .val h
  | new h e r => exact .new (s.free h) e r
  | see h e r => exact .see h e r
theorem R.wf' {K : PySem.W.Frag} {W : Addr → Prop} {ρ : LW.Env} {σ : St} {H H' : Hp} (r : R K W ρ σ H) (s : Same H H') : Wf W H' := (r.same s).wf
theorem zhB {K : PySem.W.Frag} {W : Addr → Prop} {H : Hp} : ∀ {rs : List SV} {vs : List V}, Paired (Frz K W H) rs vs → Paired (Sees K W H) (rs.map zbM) vs
  | _, _, .nil => .nil
  | _, _, .cons h t => .cons h.sees (zhB t)
theorem zhC {K : PySem.W.Frag} {W : Addr → Prop} {H : Hp} : ∀ {rs : List SV} {vs : List V} {ds : List D}, Paired (Frz K W H) rs vs → ziR rs = some ds → Reps K W H ds vs
  | _, _, _, .nil, e => by simp [ziR] at e; subst e; exact .nil
  | _, _, _, .cons h t, e => by
    simp only [ziR, jo1, jo2] at e
    obtain ⟨d, e1, ds, e2, rfl⟩ := e
    exact .cons (h.toD e1) (zhC t e2)
section
variable {es : List Expr} {env : PySem.Env}
theorem zab {a b} : starEach (.Name a b :: es) env = (false, eval (.Name a b) env) :: starEach es env := rfl
theorem zac {a b c} : starEach (.Constant a b c :: es) env = (false, eval (.Constant a b c) env) :: starEach es env := rfl
theorem zaG {a b c d} : starEach (.BinOp a b c d :: es) env = (false, eval (.BinOp a b c d) env) :: starEach es env := rfl
theorem zao {a b c d} : starEach (.Call a b c d :: es) env = (false, eval (.Call a b c d) env) :: starEach es env := rfl
theorem zak {a b c} : starEach (.Subscript a b c :: es) env = (false, eval (.Subscript a b c) env) :: starEach es env := rfl
theorem zaF {a b c} : starEach (.Tuple a b c :: es) env = (false, eval (.Tuple a b c) env) :: starEach es env := rfl
theorem znR {a b c} : starEach (.Dict a b c :: es) env = (false, eval (.Dict a b c) env) :: starEach es env := rfl
theorem zaM {a b c d} : starEach (.ListComp a b c d :: es) env = (false, eval (.ListComp a b c d) env) :: starEach es env := rfl
theorem zaj {pos : Pos} : (backTo pos (starEach [] env)).any (·.1) = false := rfl
theorem zai {pos : Pos} {e : Expr} (h : starEach (e :: es) env = (false, eval e env) :: starEach es env) (t : (backTo pos (starEach es env)).any (·.1) = false) : (backTo pos (starEach (e :: es) env)).any (·.1) = false := by
  rw [h]; simpa [backTo] using t
theorem zsk {a b} : ∀ whole, isTrue (.Name a b) env whole = (do let v ← whole; standAt (Expr.Name a b).pos; holding [v] (truthy v)) := fun _ => rfl
theorem zdd {a b c d} : ∀ whole, isTrue (.Call a b c d) env whole = (do let v ← whole; standAt (Expr.Call a b c d).pos; holding [v] (truthy v)) := fun _ => rfl
end
section
variable {X : Cx} {fn : Nat → List D → Option SV} {a b c e : Expr} {ca cb cc ce : E} {es : List Expr} {cs : Es} {pos p : Pos} {x : Str}
theorem IE.v (h : IE X fn e ce) : PE X e (tV X.K fn ce) := h.h.imp fun σ H Q ⟨W, ρ, r, hR, he, q⟩ => ⟨W, ρ, r, hR, he, fun v H' s x => q v H' s (x.frz hR.wf)⟩
theorem zaq {i : Int} {j : Nat} : IE X fn (.Constant (.int i) j pos) (.int i) := .mk <| ztA.imp fun σ H Q zz3 => by
  obtain ⟨W, ρ, r, hR, he, q⟩ := zz3
  simp only [zqZ] at he; cases he; exact q _ H (.refl H) (.val (.int i))
theorem zpW {i : Bool} {j : Nat} : IE X fn (.Constant (.bool i) j pos) (.bl i) := .mk <| zw8.imp fun σ H Q zz3 => by
  obtain ⟨W, ρ, r, hR, he, q⟩ := zz3
  simp only [zxF] at he; cases he; exact q _ H (.refl H) (.val (.bl i))
theorem zxM {j : Nat} : IE X fn (.Constant .none j pos) .non := .mk <| ztB.imp fun σ H Q zz3 => by
  obtain ⟨W, ρ, r, hR, he, q⟩ := zz3
  simp only [zud] at he; cases he; exact q _ H (.refl H) (.val .non)
theorem zsl {i : Str} {j : Nat} : IE X fn (.Constant (.str i) j pos) (.str i) := .mk <| ztC.imp fun σ H Q zz3 => by
  obtain ⟨W, ρ, r, hR, he, q⟩ := zz3
  simp only [zue] at he; cases he; exact q _ H (.refl H) (.val (.str i))
theorem zaf (i : Nat) (hN : X.N[i]? = some x) (hv : Vis X.env.scope x) (hd : (x == ("__debug__" : Str)) = false := by decide) (hcd : (x == ("__classdict__" : Str)) = false := by decide) : IE X fn (.Name x pos) (.var i) :=
  .mk <| (zd3 hN hv hd hcd).imp fun σ H Q zz3 => by
    obtain ⟨W, ρ, r, hR, he, q⟩ := zz3
    simp only [zuf] at he
    obtain ⟨v, h1, _, h3⟩ := hR.look he
    exact ⟨v, h1, q v H (.refl H) h3⟩
theorem zhD {i : Int} {t : Tok} (hg : Gl X x) (hm : X.mg x = some (.int i t)) (hd : (x == ("__debug__" : Str)) = false := by decide) : IE X fn (.Name x pos) (.int i) :=
  .mk <| (zrF hg hm (v := .int i) ⟨t, rfl⟩ hd).imp fun σ H Q zz3 => by
    obtain ⟨W, ρ, r, hR, he, q⟩ := zz3
    simp only [zqZ] at he; cases he; exact q _ H (.refl H) (.val (.int i))
theorem zam : IA X fn [] .nil := .mk <| zgX.imp fun σ H Q zz3 => by
  obtain ⟨W, ρ, rs, hR, he, q⟩ := zz3
  simp only [zch] at he; cases he; exact q _ H (.refl H) .nil
theorem zad (ha : IE X fn e ce) (hr : IA X fn es cs) (hs : starEach (e :: es) X.env = (false, eval e X.env) :: starEach es X.env := by rfl) : IA X fn (e :: es) (.cons ce cs) :=
  .mk <| (zcr ha.v hr.h hs).imp fun σ H Q zz3 => by
    obtain ⟨W, ρ, rs, hR, he, q⟩ := zz3
    simp only [zbB, jo1, jo2] at he
    obtain ⟨r, e1, rs', e2, rfl⟩ := he
    exact ⟨W, ρ, r, hR, e1, fun v H1 s1 f1 => ⟨W, ρ, rs', hR.same s1, e2, fun vs H2 s2 f2 => q _ H2 (s1.trans s2) (.cons (f1.same s2) f2)⟩⟩
theorem zhE {K : PySem.W.Frag} {p : Prim} {W : Addr → Prop} {ρ : LW.Env} {σ : St} {H H1 : Hp} {Q : VK} {rs : List SV} {vs : List V} {r : SV} (hR : R K W ρ σ H) (s1 : Same H H1) (f : Paired (Frz K W H1) rs vs)
    (e : zal p (rs.map zbM) = some r) (q : ∀ v H', Same H H' → Res K W H H' r v → Q v H') : VR K (zal p) vs H1 Q :=
  ⟨W, rs.map zbM, r, hR.wf' s1, zhB f, e, fun v H' s2 h => q v H' (s1.trans s2) (h.back s1)⟩
theorem zlo {K : PySem.W.Frag} {p : Prim} {ρ : LW.Env} {σ : St} {H : Hp} {Q : VK} {W : Addr → Prop} {r : SV} (hR : R K W ρ σ H) (he : evE fn (.prim p (.cons ca (.cons cb .nil))) ρ = some r) (q : ∀ v H', Same H H' → Res K W H H' r v → Q v H') :
    tOp (VR2 K (zal p)) (tV K fn ca) (tV K fn cb) σ H Q := by
  simp only [zcs, zch, zbB, jo1, jo2] at he
  obtain ⟨rs, ⟨r1, e1, rs', ⟨r2, e2, rs'', e3, rfl⟩, rfl⟩, e4⟩ := he
  cases e3
  exact ⟨W, ρ, r1, hR, e1, fun v1 H1 s1 f1 => ⟨W, ρ, r2, hR.same s1, e2, fun v2 H2 s2 f2 => zhE hR (s1.trans s2) (.cons (f1.same s2) (.cons f2 .nil)) e4 q⟩⟩
theorem zb7 {op : Operator} {pr : Prim} (ho : OpR X (binaryOp op) (VR2 X.K (zal pr))) (ha : IE X fn a ca) (hb : IE X fn b cb) : IE X fn (.BinOp a op b pos) (.prim pr (.cons ca (.cons cb .nil))) :=
  .mk <| (zxf ho ha.v hb.v).imp fun σ H Q ⟨W, ρ, r, hR, he, q⟩ => zlo hR he q
theorem zgG {op : CmpOp} {pr : Prim} (ho : OpR X (compareOp op) (VR2 X.K (zal pr))) (ha : IE X fn a ca) (hb : IE X fn b cb) (hm : behindInMarks op b = false) : IE X fn (.Compare a [op] [b] pos) (.prim pr (.cons ca (.cons cb .nil))) :=
  .mk <| (zrP ho ha.v hb.v hm).imp fun σ H Q ⟨W, ρ, r, hR, he, q⟩ => zlo hR he q
theorem zdH (hu : X.A.units + 64 < cLine) (ha : IE X fn a ca) (hb : IE X fn b cb) (hs : znr b) : IE X fn (.Subscript a b pos) (.prim .idx (.cons ca (.cons cb .nil))) :=
  .mk <| (zxr (zus hu) ha.v hb.v hs).imp fun σ H Q ⟨W, ρ, r, hR, he, q⟩ => zlo hR he q
theorem znS {K : PySem.W.Frag} {pr : Prim} {ρ : LW.Env} {σ : St} {H : Hp} {Q : VK} {W : Addr → Prop} {r : SV} (hR : R K W ρ σ H) (he : evE fn (.prim pr cs) ρ = some r) (q : ∀ v H', Same H H' → Res K W H H' r v → Q v H') :
    tCB (VR K (zal pr)) (tVs K fn cs) σ H Q := by
  simp only [zcs, jo1] at he
  obtain ⟨rs, e1, e2⟩ := he
  exact ⟨W, ρ, rs, hR, e1, fun vs H1 s1 f => zhE hR s1 f e2 q⟩
theorem zaN {id : String} {pr : Prim} (hc : zcz X (.builtin id) (VR X.K (zal pr))) (hg : Gl X x) (hm : X.mg x = none) (hv : bootBuiltins x = some (.builtin id)) (ha : IA X fn (e :: es) cs) (hn : x ≠ "__name__" := by decide) (hdb : (x == ("__debug__" : Str)) = false := by decide)
    (he : starEach (e :: es) X.env = (false, eval e X.env) :: starEach es X.env := by rfl) (hpl : (backTo pos (starEach es X.env)).any (·.1) = false := by rfl) : IE X fn (.Call (.Name x p) (e :: es) [] pos) (.prim pr cs) :=
  .mk <| (zhq hc hg hm hv ha.h hn hdb he hpl).imp fun σ H Q ⟨W, ρ, r, hR, h, q⟩ => znS hR h q
theorem zhF {T : String} {pr : Prim} (hc : zcz X (.type T) (VR X.K (zal pr))) (hg : Gl X x) (hm : X.mg x = none) (hv : bootBuiltins x = some (.type T)) (ha : IA X fn (e :: es) cs) (hn : x ≠ "__name__" := by decide) (hdb : (x == ("__debug__" : Str)) = false := by decide)
    (he : starEach (e :: es) X.env = (false, eval e X.env) :: starEach es X.env := by rfl) (hpl : (backTo pos (starEach es X.env)).any (·.1) = false := by rfl) : IE X fn (.Call (.Name x p) (e :: es) [] pos) (.prim pr cs) :=
  .mk <| (zno hc hg hm hv ha.h hn hdb he hpl).imp fun σ H Q ⟨W, ρ, r, hR, h, q⟩ => znS hR h q
theorem zhG {K : PySem.W.Frag} {W : Addr → Prop} {H : Hp} : ∀ {rs : List SV} {ds : List D}, ziR rs = some ds → ds.length = rs.length
  | [], _, e => by simp [ziR] at e; subst e; rfl
  | r :: rs, _, e => by
    simp only [ziR, jo1, jo2] at e
    obtain ⟨d, e1, ds, e2, rfl⟩ := e
    simp [zhG (K := K) (W := W) (H := H) e2]
noncomputable def znT : Es → Nat
  | .nil => 0
  | .cons _ r => znT r + 1
theorem zhH : ∀ {cs : Es} {ρ : LW.Env} {rs : List SV}, zcN fn cs ρ = some rs → rs.length = znT cs
  | .nil, _, _, e => by simp only [zch] at e; cases e; rfl
  | .cons c cs, _, _, e => by
    simp only [zbB, jo1, jo2] at e
    obtain ⟨r, e1, rs', e2, rfl⟩ := e
    simp [znT, zhH e2]
theorem zbT {k : Nat} (h : IA X fn es cs) (hl : znT cs ≤ 1000 := by decide) : IE X fn (.Tuple es k pos) (.tup cs) :=
  .mk <| (ztS h.h).imp fun σ H Q zz3 => by
    obtain ⟨W, ρ, r, hR, he, q⟩ := zz3
    simp only [zug, jo1, jo2] at he
    obtain ⟨rs, e1, ds, e2, rfl⟩ := he
    refine ⟨W, ρ, rs, hR, e1, fun vs H1 s1 f => ?_⟩
    have r1 := zhC f e2
    have l1 := r1.length
    have l2 := zhG (K := X.K) (W := W) (H := H) e2
    have l3 := zhH e1
    exact ⟨Nat.le_of_lt (zc9 (by omega)), fun p hp => q _ _ (s1.trans (zaP hp _)) ((zfO hp r1).back s1)⟩
theorem zfR (h : IA X fn es cs) (hl : znT cs ≤ 1000 := by decide) : IE X fn (.List es pos) (.lst cs) :=
  .mk <| (ztT h.h).imp fun σ H Q zz3 => by
    obtain ⟨W, ρ, r, hR, he, q⟩ := zz3
    simp only [zuh, jo1, jo2] at he
    obtain ⟨rs, e1, ds, e2, rfl⟩ := he
    refine ⟨W, ρ, rs, hR, e1, fun vs H1 s1 f => ?_⟩
    have r1 := zhC f e2
    have l1 := r1.length
    have l2 := zhG (K := X.K) (W := W) (H := H) e2
    have l3 := zhH e1
    exact ⟨Nat.le_of_lt (zc9 (by omega)), fun p hp => q _ _ (s1.trans (zaP hp _)) ((zeJ hp r1).back s1)⟩
theorem znU {op : BoolOp} (h : IE X fn a ca) : IE X fn (.BoolOp op [a] pos) ca := .mk (ztG h.h)
theorem zkp {zcO : List Expr} (ha : IE X fn a ca) (hb : IE X fn (.BoolOp .And (b :: zcO) pos) cb) : IE X fn (.BoolOp .And (a :: b :: zcO) pos) (.and ca cb) :=
  .mk <| (ztH ha.h hb.h).imp fun σ H Q zz3 => by
    obtain ⟨W, ρ, r, hR, he, q⟩ := zz3
    simp only [zui, jo1] at he
    obtain ⟨r1, e1, e2⟩ := he
    refine ⟨W, ρ, r1, hR, e1, fun v H1 s1 f => ?_⟩
    split at e2
    · cases f with
      | val h =>
        cases h
        exact ⟨true, rfl, by rw [if_pos rfl]; exact ⟨W, ρ, r, hR.same s1, e2, fun v H2 s2 h => q v H2 (s1.trans s2) (h.back s1)⟩⟩
    · cases f with
      | val h =>
        cases h; cases e2
        exact ⟨false, rfl, by rw [if_neg Bool.false_ne_true]; exact q _ H1 s1 (.val (.bl false))⟩
    · cases e2
theorem zsm {op op' : CmpOp} {p q : Prim} (ho : OpR X (compareOp op) (VR2 X.K (zal p))) (ho' : OpR X (compareOp op') (VR2 X.K (zal q))) (ha : IE X fn a ca) (hb : IE X fn b cb) (hc : IE X fn c cc)
    (hm : lastMarks [op, op'] [b, c] = false := by with_unfolding_all rfl) : IE X fn (.Compare a [op, op'] [b, c] pos) (.chain p q ca cb cc) :=
  .mk <| (zpC ho ho' ha.v hb.v hc.v hm).imp fun σ H Q zz3 => by
    obtain ⟨W, ρ, r, hR, he, hq⟩ := zz3
    simp only [zpR, jo1] at he
    obtain ⟨r1, e1, r2, e2, z, e3, e4⟩ := he
    refine ⟨W, ρ, r1, hR, e1, fun v1 H1 s1 f1 => ⟨W, ρ, r2, hR.same s1, e2, fun v2 H2 s2 f2 => ?_⟩⟩
    refine ⟨W, _, z, hR.wf' (s1.trans s2), .cons (f1.same s2).sees (.cons f2.sees .nil), e3, fun v H3 s3 h3 => ?_⟩
    split at e4
    · cases h3 with
      | val h3 =>
        cases h3
        simp only [jo1] at e4
        obtain ⟨r3, e5, e6⟩ := e4
        refine ⟨true, rfl, ?_⟩
        rw [if_pos rfl]
        have s13 := (s1.trans s2).trans s3
        refine ⟨W, ρ, r3, hR.same s13, e5, fun v4 H4 s4 f4 => ?_⟩
        exact ⟨W, _, r, hR.wf' (s13.trans s4), .cons ((f2.same s3).same s4).sees (.cons f4.sees .nil), e6, fun v5 H5 s5 h5 => hq v5 H5 (s13.trans (s4.trans s5)) (h5.back (s13.trans s4))⟩
    · cases h3 with
      | val h3 =>
        cases h3; cases e4
        exact ⟨false, rfl, by rw [if_neg Bool.false_ne_true]; exact hq _ H3 ((s1.trans s2).trans s3) (.val (.bl false))⟩
    · cases e4
theorem IW.t (h : IW X fn e ce) : IT X fn e ce := .mk (PW.pt h.h)
theorem zq5 (h : IT X fn a ca) : IW X fn (.BoolOp .And [a] pos) ca := .mk (zrH h.h)
theorem znV (h : IT X fn a ca) : IW X fn (.BoolOp .Or [a] pos) ca := .mk (zqP h.h)
theorem zut {zcO : List Expr} (ha : IT X fn a ca) (hb : IW X fn (.BoolOp .And (b :: zcO) pos) cb) : IW X fn (.BoolOp .And (a :: b :: zcO) pos) (.and ca cb) :=
  .mk <| (ztD ha.h hb.h).imp fun σ H Q zz3 => by
    obtain ⟨W, ρ, k, hR, he, q⟩ := zz3
    simp only [zuj, jo1] at he
    obtain ⟨k1, e1, e2⟩ := he
    refine ⟨W, ρ, k1, hR, e1, fun H1 s1 => ?_⟩
    cases k1 with
    | true => rw [if_pos rfl] at e2 ⊢; exact ⟨W, ρ, k, hR.same s1, e2, fun H2 s2 => q H2 (s1.trans s2)⟩
    | false => rw [if_neg Bool.false_ne_true] at e2 ⊢; cases e2; exact q H1 s1
theorem zuu {zcO : List Expr} (ha : IT X fn a ca) (hb : IW X fn (.BoolOp .Or (b :: zcO) pos) cb) : IW X fn (.BoolOp .Or (a :: b :: zcO) pos) (.or ca cb) :=
  .mk <| (ztE ha.h hb.h).imp fun σ H Q zz3 => by
    obtain ⟨W, ρ, k, hR, he, q⟩ := zz3
    simp only [zxG, jo1] at he
    obtain ⟨k1, e1, e2⟩ := he
    refine ⟨W, ρ, k1, hR, e1, fun H1 s1 => ?_⟩
    cases k1 with
    | true => rw [if_pos rfl] at e2 ⊢; cases e2; exact q H1 s1
    | false => rw [if_neg Bool.false_ne_true] at e2 ⊢; exact ⟨W, ρ, k, hR.same s1, e2, fun H2 s2 => q H2 (s1.trans s2)⟩
theorem ziV (ha : IT X fn a ca) : IT X fn (.UnaryOp .Not a pos) (.not ca) :=
  .mk <| (ztF ha.h).imp fun σ H Q zz3 => by
    obtain ⟨W, ρ, k, hR, he, q⟩ := zz3
    simp only [zuk, jo2] at he
    obtain ⟨k1, e1, rfl⟩ := he
    exact ⟨W, ρ, k1, hR, e1, fun H1 s1 => q H1 s1⟩
noncomputable def zhI : Prim → Bool
  | .eq => true | .ne => true | .lt => true | .le => true | .gt => true | .ge => true | .inn => true | .nin => true | .isN => true | .notN => true | .eqS => true | .neS => true
  | _ => false
theorem zkq {b : Bool} {r : SV} (h : zeX b = some r) : r = .val (.bl b) := by cases h; rfl
theorem zg2 {p : Prim} (hp : zhI p = true) {ds : List D} {r : SV} (h : zal p ds = some r) : ∃ b, r = .val (.bl b) := by
  cases p <;> first | cases hp | skip
  all_goals
    simp only [zal] at h
    first | unfold zwk at h | unfold zyD at h | unfold pEq at h | unfold pNe at h | unfold pLt at h | unfold pLe at h | unfold pGt at h | unfold pGe at h | unfold pIn at h | unfold zqW at h | unfold zyC at h | unfold zt6 at h
    split at h
    all_goals first
      | exact ⟨_, zkq h⟩
      | cases h
      | (split at h <;> first | exact ⟨_, zkq h⟩ | cases h)
      | (simp only [jo1] at h; obtain ⟨_, _, _, _, h⟩ := h; exact ⟨_, zkq h⟩)
theorem zb8 {op : CmpOp} {pr : Prim} (hp : zhI pr = true) (ho : OpR X (compareOp op) (VR2 X.K (zal pr))) (ha : IE X fn a ca) (hb : IE X fn b cb) (hm : behindInMarks op b = false) : IT X fn (.Compare a [op] [b] pos) (.prim pr (.cons ca (.cons cb .nil))) :=
  .mk <| (zrQ ho ha.v hb.v hm).imp fun σ H Q zz3 => by
    obtain ⟨W, ρ, k, hR, he, q⟩ := zz3
    have he' : (evE fn (.prim pr (.cons ca (.cons cb .nil))) ρ).bind zb0 = some k := by
      rw [znI] at he
      rw [zcs]
      simp only [jo1] at he ⊢
      obtain ⟨rs, e1, r, e2, e3⟩ := he
      exact ⟨r, ⟨rs, e1, e2⟩, e3⟩
    rw [jo1] at he'
    obtain ⟨r, e1, e2⟩ := he'
    have e1' := e1
    rw [zcs] at e1'
    simp only [jo1] at e1'
    obtain ⟨rs, _, e3⟩ := e1'
    obtain ⟨b, rfl⟩ := zg2 hp e3
    simp only [zb0] at e2
    cases e2
    exact zlo hR e1 fun v H' s h => by
      cases h with
      | val h => cases h; exact ⟨_, rfl, q H' s⟩
theorem zkr {op op' : CmpOp} {p q : Prim} (hp : zhI p = true) (hq' : zhI q = true) (ho : OpR X (compareOp op) (VR2 X.K (zal p))) (ho' : OpR X (compareOp op') (VR2 X.K (zal q))) (ha : IE X fn a ca) (hb : IE X fn b cb) (hc : IE X fn c cc)
    (hm : lastMarks [op, op'] [b, c] = false := by with_unfolding_all rfl) : IT X fn (.Compare a [op, op'] [b, c] pos) (.chain p q ca cb cc) :=
  .mk <| (zpD ho ho' ha.v hb.v hc.v hm).imp fun σ H Q zz3 => by
    obtain ⟨W, ρ, k, hR, he, hq⟩ := zz3
    simp only [zpS, jo1] at he
    obtain ⟨r1, e1, r2, e2, z, e3, e4⟩ := he
    refine ⟨W, ρ, r1, hR, e1, fun v1 H1 s1 f1 => ⟨W, ρ, r2, hR.same s1, e2, fun v2 H2 s2 f2 => ?_⟩⟩
    refine ⟨W, _, z, hR.wf' (s1.trans s2), .cons (f1.same s2).sees (.cons f2.sees .nil), e3, fun v H3 s3 h3 => ?_⟩
    split at e4
    · cases h3 with
      | val h3 =>
        cases h3
        simp only [jo1] at e4
        obtain ⟨r3, e5, r4, e6, e7⟩ := e4
        refine ⟨true, rfl, ?_⟩
        rw [if_pos rfl]
        have s13 := (s1.trans s2).trans s3
        refine ⟨W, ρ, r3, hR.same s13, e5, fun v4 H4 s4 f4 => ?_⟩
        refine ⟨W, _, r4, hR.wf' (s13.trans s4), .cons ((f2.same s3).same s4).sees (.cons f4.sees .nil), e6, fun v5 H5 s5 h5 => ?_⟩
        obtain ⟨b5, rfl⟩ := zg2 hq' e6
        simp only [zb0] at e7
        cases e7
        cases h5 with
        | val h5 => cases h5; exact ⟨_, rfl, hq H5 (s13.trans (s4.trans s5))⟩
    · cases h3 with
      | val h3 =>
        cases h3; cases e4
        exact ⟨false, rfl, by rw [if_neg Bool.false_ne_true]; exact ⟨false, rfl, hq H3 ((s1.trans s2).trans s3)⟩⟩
    · cases e4
theorem znW {K : PySem.W.Frag} {W : Addr → Prop} {H : Hp} {r : SV} {v : V} {k : Bool} (f : Frz K W H r v) (h : zb0 r = some k) : zxl K v H k := by
  unfold zb0 at h
  split at h
  · cases h; cases f with | val f => cases f; rfl
  · cases h; cases f with | val f => cases f; rfl
  · cases h; cases f with | val f => cases f; rfl
  · rename_i l
    cases h
    obtain ⟨a, xs, rfl, hq, rp⟩ := Frz.sees f |>.tup
    refine .inr (.inl ⟨xs, hq, ?_⟩)
    cases rp <;> rfl
  · cases h
    obtain ⟨a, xs, rfl, hq, rp⟩ := Frz.sees f |>.lst
    refine .inl ⟨xs, hq, ?_⟩
    cases rp <;> rfl
  · cases h
    obtain ⟨a, xs, rfl, hq, rp⟩ := Frz.sees f |>.lst
    refine .inl ⟨xs, hq, ?_⟩
    cases rp <;> rfl
  · cases h
theorem ziW (hE : IE X fn e ce) (hev : ∀ ρ, evT fn ce ρ = (evE fn ce ρ).bind zb0) (he : ∀ whole, isTrue e X.env whole = (do let v ← whole; standAt e.pos; holding [v] (truthy v)) := by intro _; rfl) : IT X fn e ce :=
  .mk <| (zld hE.v he).imp fun σ H Q zz3 => by
    obtain ⟨W, ρ, k, hR, ht, q⟩ := zz3
    rw [hev, jo1] at ht
    obtain ⟨r, e1, e2⟩ := ht
    exact ⟨W, ρ, r, hR, e1, fun v H1 s1 f => ⟨k, znW f e2, q H1 s1⟩⟩
theorem zuv (i : Nat) : ∀ ρ, evT fn (.var i) ρ = (evE fn (.var i) ρ).bind zb0 := fun ρ => id rfl
theorem zks (p : Prim) (cs : Es) : ∀ ρ, evT fn (.prim p cs) ρ = (evE fn (.prim p cs) ρ).bind zb0 := fun ρ => by rw [znI, zcs, Option.bind_assoc]
theorem zhJ (f : Nat) (cs : Es) : ∀ ρ, evT fn (.call f cs) ρ = (evE fn (.call f cs) ρ).bind zb0 := fun ρ => by rw [zr9, znF, Option.bind_assoc]
end
end L2.LW
set_option maxHeartbeats 4000000
namespace L2.LW
open PySem PySem.Spec PyProof.Rows
noncomputable def spI (K : PySem.W.Frag) (fn : Nat → List D → Option SV) (i : Nat) : Sp := fun vs H Q _ => ∃ W ds r, Wf W H ∧ Reps K W H ds vs ∧ fn i ds = some r ∧ ∀ v H', Same H H' → Res K W H H' r v → Q v H'
structure ARep (K : PySem.W.Frag) (W : Addr → Prop) (H : Hp) (io : List Nat) (ds : List D) (vs : List V) : Prop where
  len : ds.length = vs.length
  val : ∀ (k : Nat) (d : D), ds[k]? = some d → k ∉ io → ∃ v, vs[k]? = some v ∧ Rep K W H d v
  obj : ∀ (k : Nat) (d : D), ds[k]? = some d → k ∈ io → ∃ a o, vs[k]? = some (.ref a) ∧ W a ∧ H a = some o ∧ ORep K W H d o
  inj : ∀ (j k : Nat) (a : Addr), j ∈ io → k ∈ io → vs[j]? = some (.ref a) → vs[k]? = some (.ref a) → j = k
noncomputable def ioV (io : List Nat) (vs : List V) (a : Addr) : Prop := ∃ k ∈ io, vs[k]? = some (.ref a)
noncomputable def zwm (K : PySem.W.Frag) (W : Addr → Prop) (H : Hp) (io : List Nat) (vs : List V) (outs : List D) : Prop :=
  Paired (fun k d => ∃ a o, vs[k]? = some (.ref a) ∧ H a = some o ∧ ORep K W H d o) io outs
noncomputable def spA (K : PySem.W.Frag) (fa : Nat → List D → Option Ans) (i : Nat) (io : List Nat) : Sp := fun vs H Q _ => ∃ W ds r outs, Wf W H ∧ ARep K W H io ds vs ∧ fa i ds = some (.ok r outs) ∧
  ∀ v H', (∀ a o, H a = some o → ¬ ioV io vs a → H' a = some o) → zwm K W H' io vs outs → Res K W H H' r v → Q v H'
theorem Reps.get' {K : PySem.W.Frag} {W : Addr → Prop} {H : Hp} {ds : List D} {vs : List V} (r : Reps K W H ds vs) : ARep K W H [] ds vs :=
  ⟨r.length, fun k d h _ => r.get h, fun k d _ h => (by cases h), fun j k a h => (by cases h)⟩
theorem zlp {fa : Nat → List D → Option Ans} {i : Nat} {ds : List D} {r : SV} (h : prj fa i ds = some r) : fa i ds = some (.ok r []) := by
  unfold prj at h
  split at h
  · rename_i r' e; cases h; exact e
  · cases h
theorem zap {Pg : Program} {w : World} {K : PySem.W.Frag} {mg : Str → Option Value} {base : Heap} {k : Nat} {f : Addr} {fd : FuncData} {ps : List Str} {fa : Nat → List D → Option Ans} {i : Nat} {io : List Nat}
    (F : FnOk Pg w K mg base CX0 k f fd ps (spA K fa i io)) (h : io = []) : FnOk Pg w K mg base CX0 k f fd ps (spI K (prj fa) i) := by
  subst h
  exact F.imp fun vs H Q E ⟨W, ds, r, wf, rp, e, q⟩ => ⟨W, ds, r, [], wf, rp.get', zlp e, fun v H' k _ res => q v H' (fun a o h => k a o h fun ⟨_, z, _⟩ => by cases z) res⟩
theorem zlq {K : PySem.W.Frag} {W : Addr → Prop} {H : Hp} : ∀ {rs : List SV} {vs : List V}, Paired (Frz K W H) rs vs → rs.any SV.lent = false → Reps K W H (rs.map zbM) vs
  | _, _, .nil, _ => .nil
  | _, _, .cons h t, e => by
    simp only [List.any_cons, Bool.or_eq_false_iff] at e
    refine .cons ?_ (zlq t e.2)
    cases h with
    | val h => exact h
    | lis h e' r => exact r.rep h e'
    | see h e' r => simp [SV.lent] at e
theorem znX {K : PySem.W.Frag} {W : Addr → Prop} {H : Hp} : ∀ {rs : List SV} {vs : List V}, Paired (Frz K W H) rs vs → Reps K (fun _ => False) H (rs.map zbM) vs
  | _, _, .nil => .nil
  | _, _, .cons h t => by
    refine .cons ?_ (znX t)
    cases h with
    | val h => exact h.less fun _ z => z.elim
    | lis h e' r => exact (r.less fun _ z => z.elim).rep (fun z => z) e'
    | see h e' r => exact (r.less fun _ z => z.elim).rep (fun z => z) e'
theorem Res.plain {K : PySem.W.Frag} {W W' : Addr → Prop} {H H' : Hp} {r : SV} {v : V} (h : Res K W' H H' r v) (wf : ∀ a, W' a → W a) (p : r.plain = true) : Res K W H H' r v := by
  cases h with
  | val h => exact .val (h.plain p)
  | new h e r => exact .new h e (r.plain p)
  | see h e r => exact .see (wf _ h) e (r.plain p)
section
variable {X : Cx} {fn : Nat → List D → Option SV} {fuel : Nat} {a b c e : Expr} {ca cb cc ce : E} {es : List Expr} {cs : Es} {pos p : Pos} {x : Str}
theorem zau {k : Nat} {f : Addr} {fd : FuncData} {ps : List Str} {i : Nat} (F : FnOk X.prog X.w X.K X.mg X.base CX0 k f fd ps (spI X.K fn i)) (hr : Room k X.A) (hg : Gl X x) (hm : X.mg x = some (.ref f)) (hk : PySem.W.keepIn X.K (.ref f) = true)
    (hb : Binds X.K fd ps []) (ha : IA X fn (e :: es) cs) (hdb : (x == ("__debug__" : Str)) = false := by decide) (he : starEach (e :: es) X.env = (false, eval e X.env) :: starEach es X.env := by rfl)
    (hpl : (backTo pos (starEach es X.env)).any (·.1) = false := by rfl) : IE X fn (.Call (.Name x p) (e :: es) [] pos) (.call i cs) :=
  .mk <| (znm F hr hg hm hk hb .nil zt4 ha.h hdb he hpl).imp fun σ H Q zz3 => by
    obtain ⟨W, ρ, r, hR, h, q⟩ := zz3
    simp only [znF, jo1, zfn] at h
    obtain ⟨rs, e1, r', e2, e3⟩ := h
    split at e3
    · cases e3
    · rename_i hc
      cases e3
      refine ⟨W, ρ, rs, hR, e1, fun vs H1 s1 f => ?_⟩
      show spI X.K fn i (vs ++ []) H1 Q E0
      rw [List.append_nil]
      cases hl : rs.any SV.lent with
      | false => exact ⟨W, _, r, hR.wf' s1, zlq f hl, e2, fun v H' s2 h => q v H' (s1.trans s2) (h.back s1)⟩
      | true =>
        have hp : r.plain = true := by
          cases hp : r.plain with
          | true => rfl
          | false => exact absurd (by rw [hl, hp]; rfl) hc
        exact ⟨fun _ => False, _, r, fun _ z => z.elim, znX f, e2, fun v H' s2 h => q v H' (s1.trans s2) ((h.plain (fun _ z => z.elim) hp).back s1)⟩
section
variable {K : PySem.W.Frag} {W : Addr → Prop} {ρ : LW.Env} {σ : St} {H H' : Hp} {i j : Nat} {d : D} {v : V}
theorem za5 {α : Type} {l : List α} {i j : Nat} {x y : α} (h : (l.set i x)[j]? = some y) : (i = j ∧ y = x ∧ j < l.length) ∨ (i ≠ j ∧ l[j]? = some y) := by
  rw [List.getElem?_set] at h
  split at h
  · rename_i e
    subst e
    split at h
    · cases h; exact .inl ⟨rfl, rfl, by assumption⟩
    · cases h
  · exact .inr ⟨by assumption, h⟩
theorem zde {α : Type} {l : List α} {i : Nat} {x : α} (h : i < l.length) : (l.set i x)[i]? = some x := by simp [h]
theorem zaH {α : Type} {l : List α} {i j : Nat} {x : α} (h : i ≠ j) : (l.set i x)[j]? = l[j]? := List.getElem?_set_ne h
theorem R.set_val (r : R K W ρ σ H) (h : Rep K W H d v) : R K W (ρ.set i (some (.val d))) (σ.set i (some v)) H := by
  refine ⟨fun j e hj => ?_, fun j e hj => ?_, fun j x e hj hc => ?_, fun j k x y e1 e2 a h1 h2 c1 c2 h3 h4 => ?_, r.wf, by simpa using r.len⟩
  · rcases za5 hj with ⟨rfl, z, hl⟩ | ⟨n, z⟩
    · cases z
      exact ⟨v, zde (by rw [← r.len]; exact hl), h⟩
    · obtain ⟨u, h1, h2⟩ := r.val j e z
      exact ⟨u, by rw [zaH n]; exact h1, h2⟩
  · rcases za5 hj with ⟨rfl, z, hl⟩ | ⟨n, z⟩
    · cases z
    · exact r.nol j e z
  · rcases za5 hj with ⟨rfl, z, hl⟩ | ⟨n, z⟩
    · cases z; cases hc
    · obtain ⟨a, o, h1, h2⟩ := r.own j x e z hc
      exact ⟨a, o, by rw [zaH n]; exact h1, h2⟩
  · rcases za5 h1 with ⟨rfl, z, hl⟩ | ⟨n, z⟩
    · cases z; cases c1
    · rcases za5 h2 with ⟨rfl, z', hl⟩ | ⟨n', z'⟩
      · cases z'; cases c2
      · rw [zaH n] at h3
        rw [zaH n'] at h4
        exact r.inj j k x y e1 e2 a z z' c1 c2 h3 h4
theorem zkt {a : Addr} (h : Own (ρ.set i (some (.val d))) (σ.set i (some v)) a) : Own ρ σ a := by
  obtain ⟨j, x, e, h1, hc, h2⟩ := h
  rcases za5 h1 with ⟨rfl, z, hl⟩ | ⟨n, z⟩
  · cases z; cases hc
  · rw [zaH n] at h2
    exact ⟨j, x, e, z, hc, h2⟩
theorem ziX {x : SV} (hx : ∀ d, x ≠ .io d) (hf : ¬ ziC ρ i) (j : Nat) : (ziC (ρ.set i (some x)) j ↔ ziC ρ j) ∧ (ziC ρ j → i ≠ j) := by
  refine ⟨⟨fun ⟨d, h⟩ => ?_, fun ⟨d, h⟩ => ?_⟩, fun h e => hf (by rw [e]; exact h)⟩
  · rcases za5 h with ⟨rfl, z, hl⟩ | ⟨n, z⟩
    · cases z; exact absurd rfl (hx d)
    · exact ⟨d, z⟩
  · exact ⟨d, by rw [zaH (fun e => hf (by rw [e]; exact ⟨d, h⟩))]; exact h⟩
theorem zco (r : R K W ρ σ H) (s : Same H H') (h : Rep K W H' d v) (hf : ¬ ziC ρ i) : SPost K W ρ σ H W (ρ.set i (some (.val d))) (σ.set i (some v)) H' :=
  ⟨(r.same s).set_val h, fun a o q _ => s a o q, fun a w => .inl w, fun a w n => ⟨w, fun z => n (zkt z)⟩, fun j => ⟨(ziX (x := .val d) (fun _ z => (nomatch z)) hf j).1, fun z => zaH ((ziX (x := .val d) (fun _ z => (nomatch z)) hf j).2 z)⟩⟩
theorem zuw {a : Addr} (wf : Wf W H) (s : Same H H') {o : HO} (e : H' a = some o) : Wf (add W a) H' := fun b w => by
  rcases w with w | rfl
  · cases q : H b with
    | none => exact absurd q (wf b w)
    | some u => rw [s b u q]; exact fun z => nomatch z
  · rw [e]; exact fun z => nomatch z
theorem zhK {a : Addr} (s : Same H H') (h : H a = Option.none) : Ext W H (add W a) H' :=
  ⟨fun b o q _ => s b o q, fun b xs q => s b _ q, fun b o u q => s b _ q, fun b w => by
    rcases w with w | rfl
    · exact .inl w
    · exact .inr h⟩
theorem R.add {a : Addr} {o : HO} (r : R K W ρ σ H) (s : Same H H') (h : H a = Option.none) (e : H' a = some o) : R K (LW.add W a) ρ σ H' := by
  refine ⟨fun j d hj => ?_, r.nol, fun j x d hj hc => ?_, r.inj, zuw r.wf s e, r.len⟩
  · obtain ⟨u, h1, h2⟩ := r.val j d hj
    exact ⟨u, h1, h2.ext (zhK s h)⟩
  · obtain ⟨b, o, h1, h2, h3, h4⟩ := r.own j x d hj hc
    exact ⟨b, o, h1, .inl h2, s _ _ h3, h4.ext (zhK s h)⟩
theorem R.noOwn {a : Addr} (r : R K W ρ σ H) (h : H a = Option.none) : ¬ Own ρ σ a := fun z => by
  obtain ⟨_, o, d, e, _⟩ := r.ownW z
  rw [h] at e; cases e
theorem ze0 {a : Addr} {o : HO} (r : R K W ρ σ H) (s : Same H H') (h : H a = Option.none) (e : H' a = some o) (rp : ORep K (LW.add W a) H' d o) (hf : ¬ ziC ρ i) :
    SPost K W ρ σ H (LW.add W a) (ρ.set i (some (.obj true d))) (σ.set i (some (.ref a))) H' := by
  have ra := r.add s h e
  refine ⟨⟨fun j d hj => ?_, fun j d hj => ?_, fun j x es hj hc => ?_, fun j k x y e1 e2 b h1 h2 c1 c2 h3 h4 => ?_, ra.wf, by simpa using r.len⟩, fun b o q _ => s b o q, (zhK (W := W) s h).win, fun b w n => ⟨.inl w, fun z => ?_⟩,
    fun j => ⟨(ziX (x := .obj true d) (fun _ z => (nomatch z)) hf j).1, fun z => zaH ((ziX (x := .obj true d) (fun _ z => (nomatch z)) hf j).2 z)⟩⟩
  · rcases za5 hj with ⟨rfl, z, hl⟩ | ⟨n, z⟩
    · cases z
    · obtain ⟨u, h1, h2⟩ := ra.val j d z
      exact ⟨u, by rw [zaH n]; exact h1, h2⟩
  · rcases za5 hj with ⟨rfl, z, hl⟩ | ⟨n, z⟩
    · cases z
    · exact r.nol j d z
  · rcases za5 hj with ⟨rfl, z, hl⟩ | ⟨n, z⟩
    · cases z; cases hc
      exact ⟨a, o, zde (by rw [← r.len]; exact hl), .inr rfl, e, rp⟩
    · obtain ⟨b, ys, h1, h2⟩ := ra.own j x es z hc
      exact ⟨b, ys, by rw [zaH n]; exact h1, h2⟩
  · have other : ∀ {k : Nat} {x : SV} {e : D}, ρ[k]? = some (some x) → x.cell = some e → σ[k]? = some (some (.ref a)) → False := fun {k x e} q1 q3 q2 => r.noOwn h ⟨k, x, e, q1, q3, q2⟩
    rcases za5 h1 with ⟨rfl, z, hl⟩ | ⟨n, z⟩
    · rcases za5 h2 with ⟨rfl, _, _⟩ | ⟨n', z'⟩
      · rfl
      · rw [zde (by rw [← r.len]; exact hl)] at h3
        cases h3
        rw [zaH n'] at h4
        exact (other z' c2 h4).elim
    · rcases za5 h2 with ⟨rfl, z', hl⟩ | ⟨n', z'⟩
      · rw [zde (by rw [← r.len]; exact hl)] at h4
        cases h4
        rw [zaH n] at h3
        exact (other z c1 h3).elim
      · rw [zaH n] at h3
        rw [zaH n'] at h4
        exact r.inj j k x y e1 e2 b z z' c1 c2 h3 h4
  · obtain ⟨j, x, es, h1, hc, h2⟩ := z
    rcases za5 h1 with ⟨rfl, _, hl⟩ | ⟨n', z'⟩
    · rw [zde (by rw [← r.len]; exact hl)] at h2
      cases h2
      exact r.wf _ w h
    · rw [zaH n'] at h2
      exact n ⟨j, x, es, z', hc, h2⟩
noncomputable def del (W : Addr → Prop) (a : Addr) : Addr → Prop := fun b => W b ∧ b ≠ a
theorem zhL {a : Addr} : ∀ b, del W a b → W b := fun _ h => h.1
theorem zdV {a : Addr} {o : Bool} (r : R K W ρ σ H) (h : ρ[j]? = some (some (.obj o d))) (h' : σ[j]? = some (some (.ref a))) :
    SPost K W ρ σ H (del W a) (ρ.set j (some (.val d))) σ H ∧ Rep K (del W a) H d (.ref a) := by
  cases o with
  | false => exact absurd h (r.nol j d)
  | true =>
  obtain ⟨a', o, e1, e2, e3, e4⟩ := r.own j _ d h rfl
  rw [h'] at e1; cases e1
  have rp : Rep K (del W a) H d (.ref a) := (e4.less zhL).rep (fun z => z.2 rfl) e3
  have nio : ¬ ziC ρ j := fun ⟨d', z⟩ => by rw [h] at z; cases z
  refine ⟨⟨⟨fun k d' hk => ?_, fun k d' hk => ?_, fun k x es hk hc => ?_, fun k l x y e1 e2 b h1 h2 c1 c2 h3 h4 => ?_, fun b w => r.wf b w.1, by simpa using r.len⟩, fun b o q _ => q, fun b w => .inl w.1, fun b w n => ⟨⟨w, fun z => ?_⟩, fun z => ?_⟩,
    fun k => ⟨(ziX (x := .val d) (fun _ z => (nomatch z)) nio k).1, fun _ => rfl⟩⟩, rp⟩
  · rcases za5 hk with ⟨rfl, z, hl⟩ | ⟨n, z⟩
    · cases z; exact ⟨_, h', rp⟩
    · obtain ⟨u, h1, h2⟩ := r.val k d' z
      exact ⟨u, h1, h2.less zhL⟩
  · rcases za5 hk with ⟨rfl, z, hl⟩ | ⟨n, z⟩
    · cases z
    · exact r.nol k d' z
  · rcases za5 hk with ⟨rfl, z, hl⟩ | ⟨n, z⟩
    · cases z; cases hc
    · obtain ⟨b, ys, h1, h2, h3, h4⟩ := r.own k x es z hc
      refine ⟨b, ys, h1, ⟨h2, fun z' => ?_⟩, h3, h4.less zhL⟩
      subst z'
      exact n (r.inj j k _ x d es b h z rfl hc h' h1)
  · rcases za5 h1 with ⟨rfl, z, hl⟩ | ⟨n, z⟩
    · cases z; cases c1
    · rcases za5 h2 with ⟨rfl, z', hl⟩ | ⟨n', z'⟩
      · cases z'; cases c2
      · exact r.inj k l x y e1 e2 b z z' c1 c2 h3 h4
  · subst z
    exact n ⟨j, _, d, h, rfl, h'⟩
  · obtain ⟨k, x, es, h1, hc, h2⟩ := z
    rcases za5 h1 with ⟨rfl, z, hl⟩ | ⟨n', z⟩
    · cases z; cases hc
    · exact n ⟨k, x, es, z, hc, h2⟩
theorem zlr (x : SV) (d : D) : (x.put d).cell = some d := by cases x <;> rfl
theorem znY (x : SV) (d d' : D) : x.put d ≠ .val d' := by cases x <;> exact fun z => nomatch z
theorem znZ (x : SV) (d d' : D) : x.put d ≠ .obj false d' := by
  cases x <;> intro z <;> first | cases z | (simp [SV.put] at z)
theorem zls {x : SV} {d : D} : (∃ d', x.put d = .io d') ↔ ∃ d', x = .io d' := by
  cases x with
  | io y => exact ⟨fun _ => ⟨_, rfl⟩, fun _ => ⟨_, rfl⟩⟩
  | _ => exact ⟨fun ⟨_, z⟩ => (nomatch z), fun ⟨_, z⟩ => (nomatch z)⟩
theorem zfz {a : Addr} {x : SV} {d0 d' : D} {o o' : HO} (r : R K W ρ σ H) (h : ρ[i]? = some (some x)) (hc : x.cell = some d0) (h' : σ[i]? = some (some (.ref a))) (s : Same H H') (e : H' a = some o) (hk : (∀ xs, o ≠ .tup xs) ∧ (∀ b u, o ≠ .frz b u))
    (rp : ORep K W H' d' o') : SPost K W ρ σ H W (ρ.set i (some (x.put d'))) σ (upd H' a o') := by
  have r' := r.same s
  have hO : Own ρ σ a := ⟨i, x, d0, h, hc, h'⟩
  have hW : W a := (r.ownW hO).1
  have ext : Ext W H' W (upd H' a o') := by
    refine ⟨fun b o q n => ?_, fun b ys q => ?_, fun b o u q => ?_, fun b w => .inl w⟩
    · rw [za3 (fun z => n (by rw [z]; exact hW))]; exact q
    · rw [za3 (fun z => by rw [z, e] at q; cases q; exact hk.1 _ rfl)]; exact q
    · rw [za3 (fun z => by rw [z, e] at q; cases q; exact hk.2 _ _ rfl)]; exact q
  have old : ∀ {k : Nat} {y : SV} {es : D}, (ρ.set i (some (x.put d')))[k]? = some (some y) → y.cell = some es → ∃ y' es', ρ[k]? = some (some y') ∧ y'.cell = some es' := fun {k y es} q c => by
    rcases za5 q with ⟨rfl, _, _⟩ | ⟨_, z⟩
    · exact ⟨_, _, h, hc⟩
    · exact ⟨_, _, z, c⟩
  refine ⟨⟨fun k d' hk => ?_, fun k d' hk => ?_, fun k y es hk hc' => ?_, fun k l x y e1 e2 b h1 h2 c1 c2 h3 h4 => ?_, fun b w => ?_, by simpa using r.len⟩, fun b o q n => ?_, fun b w => .inl w, fun b w n => ⟨w, fun z => ?_⟩, fun j => ⟨?_, fun _ => rfl⟩⟩
  · rcases za5 hk with ⟨rfl, z, hl⟩ | ⟨n, z⟩
    · exact absurd (Option.some.inj z).symm (znY _ _ _)
    · obtain ⟨u, h1, h2⟩ := r'.val k d' z
      exact ⟨u, h1, h2.ext ext⟩
  · rcases za5 hk with ⟨rfl, z, hl⟩ | ⟨n, z⟩
    · exact absurd (Option.some.inj z).symm (znZ _ _ _)
    · exact r.nol k d' z
  · rcases za5 hk with ⟨rfl, z, hl⟩ | ⟨n, z⟩
    · cases z
      rw [zlr] at hc'
      cases hc'
      exact ⟨a, _, h', hW, za9, rp.ext ext⟩
    · obtain ⟨b, ys, h1, h2, h3, h4⟩ := r'.own k y es z hc'
      refine ⟨b, ys, h1, h2, ?_, h4.ext ext⟩
      rw [za3 (fun z' => by subst z'; exact n (r.inj i k x y d0 es b h z hc hc' h' h1))]
      exact h3
  · obtain ⟨_, _, z1, w1⟩ := old h1 c1
    obtain ⟨_, _, z2, w2⟩ := old h2 c2
    exact r.inj k l _ _ _ _ b z1 z2 w1 w2 h3 h4
  · by_cases z : b = a
    · subst z; rw [za9]; exact fun z => nomatch z
    · rw [za3 z]; exact r'.wf b w
  · rw [za3 (fun z => n (by rw [z]; exact hO))]
    exact s b o q
  · obtain ⟨k, y, es, h1, hc', h2⟩ := z
    obtain ⟨_, _, z, w⟩ := old h1 hc'
    exact n ⟨k, _, _, z, w, h2⟩
  · by_cases e : i = j
    · subst e
      have hl : i < ρ.length := by
        obtain ⟨z, _⟩ := List.getElem?_eq_some_iff.mp h; exact z
      constructor
      · rintro ⟨d', z⟩
        rw [zde hl] at z
        have z := Option.some.inj (Option.some.inj z)
        obtain ⟨d2, w⟩ := zls.mp ⟨d', z⟩
        exact ⟨d2, by rw [h, w]⟩
      · rintro ⟨d2, z⟩
        rw [h] at z
        obtain ⟨d3, w⟩ := zls (d := d').mpr ⟨d2, Option.some.inj (Option.some.inj z)⟩
        exact ⟨d3, by rw [zde hl, w]⟩
    · unfold ziC; rw [zaH e]
end
theorem Ret.back {K : PySem.W.Frag} {W W1 W2 : Addr → Prop} {ρ ρ1 : LW.Env} {σ σ1 : St} {H H1 H2 : Hp} {r : SV} {v : V} (p : SPost K W ρ σ H W1 ρ1 σ1 H1) (h : Ret K W1 ρ1 σ1 W2 H2 r v) : Ret K W ρ σ W2 H2 r v := by
  cases h with
  | val h => exact .val h
  | new h n n' e r => exact .new h (fun ⟨w, z⟩ => n (p.wout _ w z)) (fun ⟨i, z1, z2⟩ => n' ⟨i, (p.io i).1.mpr z1, by rw [(p.io i).2 z1]; exact z2⟩) e r
theorem FlOk.back {K : PySem.W.Frag} {W W1 W2 : Addr → Prop} {ρ ρ1 ρ2 : LW.Env} {σ σ1 σ2 : St} {H H1 H2 : Hp} {D : Ends} {fl : Fl} (p : SPost K W ρ σ H W1 ρ1 σ1 H1) (h : FlOk K W ρ σ W2 ρ2 σ2 H2 D fl) : FlOk K W1 ρ1 σ1 W2 ρ2 σ2 H2 D fl := by
  cases fl with
  | rt r => exact fun v q => h v (q.back p)
  | _ => exact h
structure IS (X : Cx) (ex : LW.Env → Option (Fl × LW.Env)) (st : Stmt) : Prop where
  h : PS X st (tSs X.K ex)
structure ISs (X : Cx) (ex : LW.Env → Option (Fl × LW.Env)) (st : List Stmt) : Prop where
  h : PSs X st (tSs X.K ex)
variable {fa : Nat → List D → Option Ans} {st : Stmt} {sts : List Stmt} {s : S} {ss s1 s2 : Ss}
theorem zar : ISs X (zaS fa fuel .nil) [] := .mk <| zrI.imp fun D σ H zz3 => by
  obtain ⟨W, ρ, x, hR, hx, q⟩ := zz3
  simp only [zsg] at hx; cases hx; exact q W σ H (.same hR (.refl H))
theorem zae (h1 : IS X (exS fa fuel s) st) (h2 : ISs X (zaS fa fuel ss) sts) : ISs X (zaS fa fuel (.cons s ss)) (st :: sts) :=
  .mk <| (zpz h1.h h2.h).imp fun D σ H zz3 => by
    obtain ⟨W, ρ, x, hR, hx, q⟩ := zz3
    simp only [zpU, jo1] at hx
    obtain ⟨⟨fl, ρ1⟩, e1, e2⟩ := hx
    refine ⟨W, ρ, (fl, ρ1), hR, e1, fun W1 σ1 H1 p1 => ?_⟩
    cases fl with
    | nx => exact ⟨W1, ρ1, x, p1.r, e2, fun W2 σ2 H2 p2 => FlOk.back p1 (q W2 σ2 H2 (p1.trans p2 hR))⟩
    | br => cases e2; exact q W1 σ1 H1 p1
    | ct => cases e2; exact q W1 σ1 H1 p1
    | rt r => cases e2; exact q W1 σ1 H1 p1
theorem zdI (he : IE X (prj fa) e ce) (hs : swapsWith e Option.none pos.line X.env = pure false := by rfl) : IS X (exS fa fuel (.expr ce)) (.Expr e pos) :=
  .mk <| (zhp he.h hs).imp fun D σ H zz3 => by
    obtain ⟨W, ρ, x, hR, hx, q⟩ := zz3
    simp only [zsb, jo2] at hx
    obtain ⟨r, e1, rfl⟩ := hx
    exact ⟨W, ρ, r, hR, e1, fun v H1 s1 _ => q W σ H1 (.same hR s1)⟩
theorem zbq (i : Nat) {pos' : Pos} (hN : X.N.Nodup) (hi : X.N[i]? = some x) (hx : Loc X.env.scope x) (he : IE X (prj fa) e ce) (hs : swapsWith e (some (.Name x pos')) pos.line X.env = pure false := by rfl)
    (hf : X.fn x = true ∨ X.env.scope.names.lookup x = some .local := by first | exact .inl rfl | exact .inr rfl | assumption) : IS X (exS fa fuel (.asg i ce)) (.Assign [.Name x pos'] e pos) :=
  .mk <| (zqR hN hi hx he.h hs hf).imp fun D σ H zz3 => by
    obtain ⟨W, ρ, y, hR, hy, q⟩ := zz3
    simp only [zq1, jo1] at hy
    obtain ⟨r, e1, e2⟩ := hy
    split at e2
    · cases e2
    · rename_i hl
      cases e2
      simp only [Bool.not_eq_true, Bool.or_eq_false_iff, Bool.not_eq_false'] at hl
      refine ⟨W, ρ, r, hR, e1, fun v H1 s1 h => ?_⟩
      cases h with
      | val h => exact q W _ H1 (zco hR s1 h (zdS hl.2))
      | new h e r => exact q _ _ H1 (ze0 hR s1 h e r (zdS hl.2))
      | see h e r => simp [SV.lent] at hl
theorem zsn (i j : Nat) {y : Str} {pos' : Pos} (hN : X.N.Nodup) (hi : X.N[i]? = some x) (hx : Loc X.env.scope x) (hj : X.N[j]? = some y) (hv : Vis X.env.scope y) (hs : swapsWith (.Name y p) (some (.Name x pos')) pos.line X.env = pure false := by rfl)
    (hf : X.fn x = true ∨ X.env.scope.names.lookup x = some .local := by first | exact .inl rfl | exact .inr rfl | assumption) (hd : (y == ("__debug__" : Str)) = false := by decide) (hcd : (y == ("__classdict__" : Str)) = false := by decide) :
    IS X (exS fa fuel (.mov i j)) (.Assign [.Name x pos'] (.Name y p) pos) :=
  .mk <| (zqR hN hi hx (zd3 hj hv hd hcd) hs hf).imp fun D σ H zz3 => by
    obtain ⟨W, ρ, z, hR, hz, q⟩ := zz3
    simp only [zq2] at hz
    split at hz
    · rename_i hfr
      split at hz
      · rename_i d h
        cases hz
        obtain ⟨v, h1, h2⟩ := hR.val j d h
        exact ⟨v, h1, q W _ H (zco hR (.refl H) h2 (zdS hfr))⟩
      · rename_i o ds h
        cases hz
        cases o with
        | false => exact absurd h (hR.nol j ds)
        | true =>
        obtain ⟨a, xs, h1, _⟩ := hR.own j _ ds h rfl
        obtain ⟨p1, rp⟩ := zdV hR h h1
        exact ⟨_, h1, q _ _ H (p1.trans (zco p1.r (.refl H) rp fun z => zdS hfr ((p1.io _).1.mp z)) hR)⟩
      · cases hz
    · cases hz
theorem zbk (he : IE X (prj fa) e ce) : IS X (exS fa fuel (.ret ce)) (.Return (some e) pos) :=
  .mk <| (zqQ he.h).imp fun D σ H zz3 => by
    obtain ⟨W, ρ, y, hR, hy, q⟩ := zz3
    simp only [zum, jo1] at hy
    obtain ⟨r, e1, e2⟩ := hy
    split at e2
    · cases e2
    · rename_i hl
      cases e2
      refine ⟨W, ρ, r, hR, e1, fun v H1 s1 h => ?_⟩
      cases h with
      | val h => exact q W σ H1 (.same hR s1) v (.val h)
      | new h e r =>
        refine q _ σ H1 ⟨hR.add s1 h e, fun b o q _ => s1 b o q, (zhK (W := W) s1 h).win, fun b w n => ⟨.inl w, n⟩, fun _ => ⟨.rfl, fun _ => rfl⟩⟩ _ (.new (.inr rfl) (fun z => hR.wf _ z.1 h) (fun ⟨i, ⟨d, z1⟩, z2⟩ => hR.noOwn h ⟨i, _, d, z1, rfl, z2⟩) e r)
      | see h e r => simp [SV.lent] at hl
theorem ziY (i : Nat) (hN : X.N[i]? = some x) (hv : Vis X.env.scope x) (hd : (x == ("__debug__" : Str)) = false := by decide) (hcd : (x == ("__classdict__" : Str)) = false := by decide) : IS X (exS fa fuel (.retV i)) (.Return (some (.Name x p)) pos) :=
  .mk <| (zqQ (zd3 hN hv hd hcd)).imp fun D σ H zz3 => by
    obtain ⟨W, ρ, y, hR, hy, q⟩ := zz3
    simp only [znK] at hy
    split at hy
    · rename_i d h
      cases hy
      obtain ⟨v, h1, h2⟩ := hR.val i d h
      exact ⟨v, h1, q W σ H (.same hR (.refl H)) v (.val h2)⟩
    · rename_i o ds h
      cases hy
      cases o with
      | false => exact absurd h (hR.nol i ds)
      | true =>
      obtain ⟨a, xs, h1, h2, h3, h4⟩ := hR.own i _ ds h rfl
      refine ⟨_, h1, q W σ H ?_ _ (.new h2 (fun z => z.2 ⟨i, _, ds, h, rfl, h1⟩) (fun zz0 => by
        obtain ⟨j, ⟨d', z1⟩, z2⟩ := zz0
        have := hR.inj i j _ _ ds d' a h z1 rfl rfl h1 z2
        subst this
        rw [h] at z1; cases z1) h3 h4)⟩
      have old : ∀ {k : Nat} {z : SV}, (ρ.set i Option.none)[k]? = some (some z) → ρ[k]? = some (some z) := fun {k z} q => by
        rcases za5 q with ⟨_, w, _⟩ | ⟨_, w⟩
        · cases w
        · exact w
      exact ⟨⟨fun k d hk => hR.val k d (old hk), fun k d hk => hR.nol k d (old hk), fun k o es hk => hR.own k o es (old hk), fun k l x y e1 e2 b z1 z2 => hR.inj k l x y e1 e2 b (old z1) (old z2), hR.wf, by simpa using hR.len⟩, fun b o q _ => q, fun b w => .inl w, fun b w n => ⟨w, fun ⟨k, x, es, z1, c, z2⟩ => n ⟨k, x, es, old z1, c, z2⟩⟩,
        fun k => ⟨⟨fun ⟨d', z⟩ => ⟨d', old z⟩, fun ⟨d', z⟩ => ⟨d', by rw [zaH (fun e => by subst e; rw [h] at z; cases z)]; exact z⟩⟩, fun _ => rfl⟩⟩
    · cases hy
theorem zq6 : IS X (exS fa fuel .stop) st := .mk <| zpA.imp fun D σ H zz3 => by
  obtain ⟨W, ρ, y, hR, hy, q⟩ := zz3
  simp only [zsf] at hy; cases hy
theorem ziD (hc : IT X (prj fa) c cc) (h1 : ISs X (zaS fa fuel s1) sts) (h2 : ISs X (zaS fa fuel s2) sts') : IS X (exS fa fuel (.ifs cc s1 s2)) (.If c sts sts' pos) :=
  .mk <| (ztI hc.h h1.h h2.h).imp fun D σ H zz3 => by
    obtain ⟨W, ρ, y, hR, hy, q⟩ := zz3
    simp only [zun, jo1] at hy
    obtain ⟨k, e1, e2⟩ := hy
    refine ⟨W, ρ, k, hR, e1, fun H1 w1 => ?_⟩
    have p1 := SPost.same hR w1
    show if k = true then tSs X.K (zaS fa fuel s1) D σ H1 else tSs X.K (zaS fa fuel s2) D σ H1
    cases k with
    | true => rw [if_pos rfl] at e2 ⊢; exact ⟨W, ρ, y, p1.r, e2, fun W2 σ2 H2 p2 => FlOk.back p1 (q W2 σ2 H2 (p1.trans p2 hR))⟩
    | false => rw [if_neg Bool.false_ne_true] at e2 ⊢; exact ⟨W, ρ, y, p1.r, e2, fun W2 σ2 H2 p2 => FlOk.back p1 (q W2 σ2 H2 (p1.trans p2 hR))⟩
theorem zn0 (i : Nat) {apos cpos : Pos} (hN : X.N[i]? = some x) (hv : Vis X.env.scope x) (he : IE X (prj fa) e ce) (hst : starEach [e] X.env = (false, eval e X.env) :: starEach [] X.env) (hd : (x == ("__debug__" : Str)) = false) (hcd : (x == ("__classdict__" : Str)) = false)
    (hs : swapsWith (.Call (.Attribute (.Name x p) "append" apos) [e] [] cpos) Option.none pos.line X.env = pure false := by rfl)
    (hbase : attributeBase (.Name x p) "append" X.env (eval (.Name x p) X.env) = eval (.Name x p) X.env := by rfl)
    (hline : (apos.endLine == cpos.line) = true := by rfl) :
    IS X (exS fa fuel (.app i ce)) (.Expr (.Call (.Attribute (.Name x p) "append" apos) [e] [] cpos) pos) :=
  .mk <| (zhp (ztZ PySem.F.plainAttrs_list PySem.F.slot_list_append PySem.F.type_list_append ziN (zd3 hN hv hd hcd) (zcr he.v zgX hst) hbase (by rw [hst]; rfl) hline hst zaj) hs).imp fun D σ H zz3 => by
    obtain ⟨W, ρ, y, hR, hy, q⟩ := zz3
    simp only [zq3] at hy
    split at hy
    · rename_i x h
      split at hy
      · rename_i ds hc
        simp only [jo1] at hy
        obtain ⟨r, e1, d, e2, e3⟩ := hy
        split at e3
        · rename_i hl
          cases e3
          obtain ⟨a, o, h1, h2, h3, h4⟩ := hR.own i _ _ h hc
          cases h4 with
          | lst h4 =>
          rename_i xs
          refine ⟨_, h1, .inl ⟨rfl, xs, .of h3⟩, ?_⟩
          refine ⟨W, ρ, r, hR, e1, fun v H1 w1 f => ?_⟩
          refine ⟨a, xs, v, rfl, rfl, w1 _ _ h3, ?_, ?_⟩
          · rw [← h4.length, ← zfP]; exact hl
          · exact q W σ _ (zfz hR h hc h1 w1 (w1 _ _ h3) ⟨fun _ z => (nomatch z), fun _ _ z => (nomatch z)⟩ (.lst ((h4.ext (.same w1)).append (.cons (f.toD e2) .nil))))
        · cases e3
      · cases hy
    · cases hy
end
end L2.LW
set_option maxHeartbeats 4000000
namespace L2.LW
open PySem PySem.Spec PyProof.Rows
noncomputable def Yl (K : PySem.W.Frag) (J : It) (W : Addr → Prop) (H : Hp) (ds : List D) : Prop :=
  ∀ W' H', Ext W H W' H' → ∀ k : Nat, (k = ds.length → J.stop k H') ∧ ∀ d, ds[k]? = some d → J.go k H' ∧ ∀ x H'', J.yld k H' x H'' → H'' = H' ∧ Rep K W' H' d x
noncomputable def Ys (K : PySem.W.Frag) (J : It) (W : Addr → Prop) (H : Hp) (ds : List D) : Prop :=
  ∀ W' H', Same H H' → (∀ a, W' a → W a ∨ H a = Option.none) → ∀ k : Nat, (k = ds.length → J.stop k H') ∧ ∀ d, ds[k]? = some d → J.go k H' ∧ ∀ x H'', J.yld k H' x H'' → H'' = H' ∧ Rep K W' H' d x
theorem Ext.sameW {W W' : Addr → Prop} {H H' : Hp} (s : Same H H') (w : ∀ a, W' a → W a ∨ H a = Option.none) : Ext W H W' H' := ⟨fun a o h _ => s a o h, fun a xs h => s a _ h, fun a o u h => s a _ h, w⟩
section
variable {K : PySem.W.Frag} {W : Addr → Prop} {H : Hp} {a : Addr} {xs : List V} {ds : List D}
theorem ziZ {H' : Hp} {W' : Addr → Prop} (hq : SqL K H' a xs) (rp : Reps K W' H' ds xs) (k : Nat) :
    (k = ds.length → (Itl K a).stop k H') ∧ ∀ d, ds[k]? = some d → (Itl K a).go k H' ∧ ∀ x H'', (Itl K a).yld k H' x H'' → H'' = H' ∧ Rep K W' H' d x := by
  refine ⟨fun e => ⟨xs, hq, by rw [← rp.length, e]; exact Nat.le_refl _⟩, fun d e => ?_⟩
  obtain ⟨v, e1, e2⟩ := rp.get e
  refine ⟨⟨xs, v, hq, e1⟩, fun x H'' ⟨z, y⟩ => ⟨z, ?_⟩⟩
  have := y xs hq
  rw [e1] at this
  cases this
  exact e2
theorem zn1 {H' : Hp} {W' : Addr → Prop} (hq : SqT K H' a xs) (rp : Reps K W' H' ds xs) (k : Nat) :
    (k = ds.length → (Itt K a).stop k H') ∧ ∀ d, ds[k]? = some d → (Itt K a).go k H' ∧ ∀ x H'', (Itt K a).yld k H' x H'' → H'' = H' ∧ Rep K W' H' d x := by
  refine ⟨fun e => ⟨xs, hq, by rw [← rp.length, e]; exact Nat.le_refl _⟩, fun d e => ?_⟩
  obtain ⟨v, e1, e2⟩ := rp.get e
  refine ⟨⟨xs, v, hq, e1⟩, fun x H'' ⟨z, y⟩ => ⟨z, ?_⟩⟩
  have := y xs hq
  rw [e1] at this
  cases this
  exact e2
theorem zlt {H' : Hp} {W' : Addr → Prop} {lo : Int} {n : Nat} (k : Nat) :
    (k = ((List.range n).map fun (k : Nat) => D.int (lo + (k : Int))).length → (Itr lo n).stop k H') ∧
      ∀ d, ((List.range n).map fun (k : Nat) => D.int (lo + (k : Int)))[k]? = some d → (Itr lo n).go k H' ∧ ∀ x H'', (Itr lo n).yld k H' x H'' → H'' = H' ∧ Rep K W' H' d x := by
  refine ⟨fun e => ?_, fun d e => ?_⟩
  · rw [List.length_map, List.length_range] at e
    exact Nat.le_of_eq e.symm
  · rw [List.getElem?_map, jo2] at e
    obtain ⟨j, e1, rfl⟩ := e
    obtain ⟨h1, h2⟩ := List.getElem?_eq_some_iff.mp e1
    rw [List.length_range] at h1
    rw [List.getElem_range] at h2
    subst h2
    exact ⟨h1, fun x H'' ⟨z, y⟩ => ⟨z, by rw [y]; exact .int _⟩⟩
theorem zku {W' : Addr → Prop} {H' : Hp} (h : (¬ W a ∧ Rd H a (.lst xs)) ∨ zxJ K a xs) (x : Ext W H W' H') : SqL K H' a xs := by
  rcases h with ⟨n, h | ⟨o, h⟩⟩ | h
  · exact .inl (.inl (x.keep _ _ h n))
  · exact .inl (.inr ⟨o, x.keep _ _ h n⟩)
  · exact .inr h
end
noncomputable def zzt (K : PySem.W.Frag) (tl : TE) : TI := fun σ H R => tl σ H fun x H1 => ∃ a, x = .ref a ∧ (((∃ xs, SqL K H1 a xs) ∧ R (Itl K a) H1) ∨ ((∃ xs, SqT K H1 a xs) ∧ R (Itt K a) H1))
section
variable {X : Cx} {tg l : Expr}
theorem zq7 {tl : TE} (hl : PE X l tl) : PI X tg l (zzt X.K tl) := by
  intro pins s σ H R I h
  refine thn (hl pins s σ H _ I h) fun v s1 ⟨x, H1, I1, r1, q1⟩ => ?_
  obtain ⟨a, e, q⟩ := q1
  subst e
  cases r1
  rcases q with ⟨⟨xs, hq⟩, q⟩ | ⟨⟨xs, hq⟩, q⟩
  · obtain ⟨its, rv, p, hz⟩ := I1.list hq
    refine wpAny_pyIter_list p.isList ?_
    refine ⟨s1.heap.objs.size, [s1.heap.objs.size], _, _, H1, rfl, I1.kept (t' := s1.toks) fun b o e => Heap.get?_push_of_some _ e, znf a _, ⟨_, Heap.get?_push_size _ rfl, rfl, rfl⟩, fun b hb => ?_, q⟩
    have e : b = s1.heap.objs.size := by simpa using hb
    subst e
    exact I1.fpOk (Nat.le_refl _) (I1.hok.fresh (Nat.le_refl _))
  · obtain ⟨its, rv, p, hz⟩ := I1.tuple hq
    refine wpAny_pyIter_tuple (show s1.heap.IsTuple a its.toArray from p) ?_
    refine ⟨s1.heap.objs.size, [s1.heap.objs.size], _, _, H1, rfl, I1.kept (t' := s1.toks) fun b o e => Heap.get?_push_of_some _ e, zmm a _, ⟨_, Heap.get?_push_size _ rfl, rfl, rfl⟩, fun b hb => ?_, q⟩
    have e : b = s1.heap.objs.size := by simpa using hb
    subst e
    exact I1.fpOk (Nat.le_refl _) (I1.hok.fresh (Nat.le_refl _))
end
noncomputable def tI (K : PySem.W.Frag) (fn : Nat → List D → Option SV) (rng : Bool) (src : Es) : TI := fun σ H R0 => ∃ W ρ rs ds, R K W ρ σ H ∧ zcN fn src ρ = some rs ∧ za0 rng rs = some ds ∧
  ∀ J H', Same H H' → Ys K J W H' ds → (rs.any SV.lent = false → Yl K J W H' ds) → R0 J H'
structure Src (X : Cx) (fn : Nat → List D → Option SV) (tg e : Expr) (rng : Bool) (src : Es) : Prop where
  h : PI X tg e (tI X.K fn rng src)
theorem _root_.L2.PI.imp {X : Cx} {tg l : Expr} {t t' : TI} (h : PI X tg l t) (i : ∀ σ H Q, t' σ H Q → t σ H Q) : PI X tg l t' := fun pins s σ H Q I q => h pins s σ H Q I (i σ H Q q)
section
variable {X : Cx} {fn : Nat → List D → Option SV} {fuel : Nat} {a b c e tg : Expr} {ca cb cc ce : E} {es : List Expr} {cs : Es} {pos p : Pos} {x : Str}
theorem zbD (he : IE X fn e ce) : Src X fn tg e false (.cons ce .nil) :=
  .mk <| (zq7 he.v).imp fun σ H R0 zz3 => by
    obtain ⟨W, ρ, rs, ds, hR, h1, h2, q⟩ := zz3
    simp only [zch, zbB, jo1, jo2] at h1
    obtain ⟨r, e1, rs', e3, rfl⟩ := h1
    cases e3
    simp only [za0] at h2
    refine ⟨W, ρ, r, hR, e1, fun v H1 s1 f => ?_⟩
    unfold zgC at h2
    split at h2
    · rename_i l hd
      cases h2
      have hs := f.sees
      rw [hd] at hs
      obtain ⟨a, xs, rfl, hq, rp⟩ := hs.tupH
      refine ⟨a, rfl, .inr ⟨⟨xs, .of hq⟩, q _ H1 s1 (fun W' H' s w k => zn1 (.of (s _ _ hq)) (rp.ext (.sameW s w)) k) fun _ W' H' x k => zn1 (.of (x.tup _ _ hq)) (rp.ext x) k⟩⟩
    · rename_i l hd
      cases h2
      have hs := f.sees
      rw [hd] at hs
      obtain ⟨a, xs, rfl, hq, rp⟩ := hs.lst
      refine ⟨a, rfl, .inl ⟨⟨xs, hq⟩, q _ H1 s1 (fun W' H' s w k => ziZ (s.seq hq) (rp.ext (.sameW s w)) k) fun hl W' H' x k => ?_⟩⟩
      have hl' : r.lent = false := by simpa using hl
      cases f with
      | val h =>
        change _ = D.lst _ at hd
        subst hd
        cases h with
        | lst h r' => exact ziZ (zku h x) (r'.ext x) k
      | lis h e r' =>
        change _ = D.lst _ at hd
        subst hd
        cases r' with
        | lst r' => exact ziZ (.of (x.keep _ _ e h)) (r'.ext x) k
      | see h e r' => simp [SV.lent] at hl'
    · cases h2
theorem zlu (hg : Gl X "range") (hm : X.mg "range" = Option.none) (ha : IA X fn [a] (.cons ca .nil)) (hs : starEach [a] X.env = (false, eval a X.env) :: starEach [] X.env) : Src X fn tg (.Call (.Name "range" p) [a] [] pos) true (.cons ca .nil) :=
  .mk <| (zng hg hm ha.h hs).imp fun σ H R0 zz3 => by
    obtain ⟨W, ρ, rs, ds, hR, h1, h2, q⟩ := zz3
    refine ⟨W, ρ, rs, hR, h1, fun vs H1 s1 f => ?_⟩
    simp only [zch, zbB, jo1, jo2] at h1
    obtain ⟨r, e1, rs', e3, rfl⟩ := h1
    cases e3
    obtain ⟨v, rfl, g⟩ : ∃ v, vs = [v] ∧ Frz X.K W H1 r v := by
      cases f with
      | cons f t => cases t; exact ⟨_, rfl, f⟩
    clear f
    cases g with
    | val g =>
      cases g with
      | int n =>
        simp only [za0] at h2
        split at h2
        · rename_i hn
          cases h2
          exact ⟨n, rfl, hn.1, hn.2, q _ H1 s1 (fun W' H' s w k => zlt k) fun _ W' H' x k => zlt k⟩
        · cases h2
      | _ => simp [za0] at h2
    | _ => simp [za0] at h2
theorem zlv (hg : Gl X "range") (hm : X.mg "range" = Option.none) (ha : IA X fn [a, b] (.cons ca (.cons cb .nil))) (hs : starEach [a, b] X.env = (false, eval a X.env) :: starEach [b] X.env) (hs2 : starEach [b] X.env = (false, eval b X.env) :: starEach [] X.env) :
    Src X fn tg (.Call (.Name "range" p) [a, b] [] pos) true (.cons ca (.cons cb .nil)) :=
  .mk <| (znh hg hm ha.h (by rw [hs, hs2]; rfl) hs2).imp fun σ H R0 zz3 => by
    obtain ⟨W, ρ, rs, ds, hR, h1, h2, q⟩ := zz3
    refine ⟨W, ρ, rs, hR, h1, fun vs H1 s1 f => ?_⟩
    simp only [zch, zbB, jo1, jo2] at h1
    obtain ⟨r, e1, rs', ⟨r2, e2, rs'', e3, rfl⟩, rfl⟩ := h1
    cases e3
    obtain ⟨v, v2, rfl, g, f2⟩ : ∃ v v2, vs = [v, v2] ∧ Frz X.K W H1 r v ∧ Frz X.K W H1 r2 v2 := by
      cases f with
      | cons f t => cases t with
        | cons f' t => cases t; exact ⟨_, _, rfl, f, f'⟩
    clear f
    cases g with
    | val g =>
      cases f2 with
      | val f2 =>
        cases g with
        | int n =>
          cases f2 with
          | int m =>
            simp only [za0] at h2
            split at h2
            · rename_i hn
              cases h2
              exact ⟨n, m, rfl, ⟨hn.1.1, hn.1.2, hn.2.1, hn.2.2⟩, q _ H1 s1 (fun W' H' s w k => zlt k) fun _ W' H' x k => zlt k⟩
            · cases h2
          | _ => simp [za0] at h2
        | _ => simp [za0] at h2
      | _ => simp [za0] at h2
    | _ => simp [za0] at h2
theorem zi0 {α : Type} {l : List α} {k : Nat} {d : α} (h : l[k]? = some d) : l.drop k = d :: l.drop (k + 1) := by
  obtain ⟨h1, h2⟩ := List.getElem?_eq_some_iff.mp h
  rw [List.drop_eq_getElem_cons h1, h2]
theorem zfA {K : PySem.W.Frag} {J : It} {ds : List D} {i : Nat} {ex : LW.Env → Option (Fl × LW.Env)} {W : Addr → Prop} {ρ : LW.Env} {σ : St} {H : Hp} {x : Fl × LW.Env} {D0 : Ends} (hR : R K W ρ σ H) (hfr : ¬ ziC ρ i) (hy : Yl K J W H ds)
    (hx : zgy i ex ds ρ = some x) (q : ∀ W' σ' H', SPost K W ρ σ H W' x.2 σ' H' → FlOk K W ρ σ W' x.2 σ' H' D0 x.1) :
    ∃ Wv : Nat → Nat → St → Hp → Prop, (∃ m, Wv 0 m σ H) ∧ ∀ k m σ' H', Wv k m σ' H' →
      (J.stop k H' ∧ D0.nx σ' H') ∨ (J.go k H' ∧ ∃ N : St → Hp → Prop, (∀ σ2 H2, N σ2 H2 → ∃ m', m' < m ∧ Wv (k + 1) m' σ2 H2) ∧ ∀ v H2, J.yld k H' v H2 → zrJ i v σ' H2 fun σ2 H2 => tSs K ex { D0 with nx := N, ct := N, bk := D0.nx } σ2 H2) := by
  refine ⟨fun k m σ' H' => m = ds.length - k ∧ k ≤ ds.length ∧ ∃ W' ρ', SPost K W ρ σ H W' ρ' σ' H' ∧ zgy i ex (ds.drop k) ρ' = some x, ⟨_, rfl, Nat.zero_le _, W, ρ, .same hR (.refl H), hx⟩, ?_⟩
  rintro k m σ' H' ⟨rfl, hk, W', ρ', p, hf⟩
  obtain ⟨hstop, hgo⟩ := hy W' H' (p.ext hR) k
  by_cases hlt : k < ds.length
  · have hd : ds[k]? = some ds[k] := by simp [hlt]
    obtain ⟨g1, g2⟩ := hgo _ hd
    rw [zi0 hd, zgy, jo1] at hf
    obtain ⟨⟨fl, ρ2⟩, e1, e2⟩ := hf
    refine .inr ⟨g1, fun σ2 H2 => (ds.length - (k + 1)) = ds.length - (k + 1) ∧ k + 1 ≤ ds.length ∧ ∃ W' ρ', SPost K W ρ σ H W' ρ' σ2 H2 ∧ zgy i ex (ds.drop (k + 1)) ρ' = some x, fun σ2 H2 h => ⟨_, by omega, h⟩, fun v H2 y => ?_⟩
    obtain ⟨rfl, rv⟩ := g2 v H2 y
    have p1 := zco (i := i) p.r (.refl H2) rv fun z => hfr ((p.io i).1.mp z)
    have p01 := p.trans p1 hR
    refine ⟨W', _, (fl, ρ2), p1.r, e1, fun W3 σ3 H3 p3 => ?_⟩
    have p03 := p01.trans p3 hR
    cases fl with
    | nx => exact ⟨rfl, hlt, W3, ρ2, p03, e2⟩
    | ct => exact ⟨rfl, hlt, W3, ρ2, p03, e2⟩
    | br => cases e2; exact q W3 σ3 H3 p03
    | rt r => cases e2; exact fun v hv => q W3 σ3 H3 p03 v (hv.back p01)
  · have e : k = ds.length := by omega
    rw [List.drop_of_length_le (by omega), zgy] at hf
    cases hf
    exact .inl ⟨hstop e, q W' σ' H' p⟩
variable {fa : Nat → List D → Option Ans} {sts : List Stmt} {ss : Ss}
theorem zmu (i : Nat) {rng : Bool} {src : Es} {px : Pos} (hp : PassesOwn (model X.prog X.w) X.A X.env X.xe) (hc : X.calm = true) (hN : X.N.Nodup) (hi : X.N[i]? = some x) (hx : Loc X.env.scope x) (hs : Src X (prj fa) (.Name x px) e rng src) (hb : ISs X (zaS fa fuel ss) sts)
    (hf : X.fn x = true ∨ X.env.scope.names.lookup x = some .local := by first | exact .inl rfl | exact .inr rfl | assumption) (hfo : ∀ x, foldedSetIterable e X.env x = pure x := by intro _; rfl) : IS X (exS fa fuel (.for_ i rng src ss)) (.For (.Name x px) e sts [] pos) :=
  .mk <| (zqS hp hc hs.h (zki hN hi hx hf) hb.h hfo).imp fun D0 σ H zz3 => by
    obtain ⟨W, ρ, y, hR, hy, q⟩ := zz3
    simp only [zsd, jo1] at hy
    obtain ⟨rs, e1, e2⟩ := hy
    split at e2
    · cases e2
    · rename_i hl
      simp only [Bool.not_eq_true, Bool.or_eq_false_iff, Bool.not_eq_false'] at hl
      rw [jo1] at e2
      obtain ⟨ds, e3, e4⟩ := e2
      refine ⟨W, ρ, rs, ds, hR, e1, e3, fun J H1 s1 _ hyl => ?_⟩
      have p1 := SPost.same hR s1
      exact zfA p1.r (zdS hl.2) (hyl hl.1) e4 fun W' σ' H' p => FlOk.back p1 (q W' σ' H' (p1.trans p hR))
theorem zn2 (i j : Nat) {y : Str} {px : Pos} (hp : PassesOwn (model X.prog X.w) X.A X.env X.xe) (hc : X.calm = true) (hN : X.N.Nodup) (hi : X.N[i]? = some x) (hx : Loc X.env.scope x) (hj : X.N[j]? = some y) (hv : Vis X.env.scope y) (hb : ISs X (zaS fa fuel ss) sts)
    (hf : X.fn x = true ∨ X.env.scope.names.lookup x = some .local := by first | exact .inl rfl | exact .inr rfl | assumption) (hd : (y == ("__debug__" : Str)) = false := by decide) (hcd : (y == ("__classdict__" : Str)) = false := by decide)
    (hfo : ∀ x, foldedSetIterable (.Name y p) X.env x = pure x := by intro _; rfl) : IS X (exS fa fuel (.forV i j ss)) (.For (.Name x px) (.Name y p) sts [] pos) :=
  .mk <| (zqS hp hc (zq7 (zd3 hj hv hd hcd)) (zki hN hi hx hf) hb.h hfo).imp fun D0 σ H zz3 => by
    obtain ⟨W, ρ, z, hR, hz, q⟩ := zz3
    simp only [zse] at hz
    split at hz
    case isFalse => cases hz
    rename_i hfr
    have hfr := zdS hfr
    simp only [jo1, zg1] at hz
    obtain ⟨⟨ds, ρ1⟩, e1, e2⟩ := hz
    split at e1
    · rename_i d h
      rw [jo2] at e1
      obtain ⟨l, e3, e4⟩ := e1
      cases e4
      obtain ⟨v, h1, h2⟩ := hR.val j d h
      refine ⟨v, h1, ?_⟩
      unfold zgC at e3
      split at e3
      · cases e3
        cases h2 with
        | tup hq rp => exact ⟨_, rfl, .inr ⟨⟨_, .of hq⟩, zfA hR hfr (fun W' H' x k => zn1 (.of (x.tup _ _ hq)) (rp.ext x) k) e2 q⟩⟩
      · cases e3
        cases h2 with
        | lst hq rp => exact ⟨_, rfl, .inl ⟨⟨_, hq.elim (fun z => .inl z.2) fun z => .inr z⟩, zfA hR hfr (fun W' H' x k => ziZ (zku hq x) (rp.ext x) k) e2 q⟩⟩
      · cases e3
    · rename_i o es h
      cases e1
      cases o with
      | false => exact absurd h (hR.nol j _)
      | true =>
      obtain ⟨a, xs, h1, h2, h3, h4⟩ := hR.own j _ _ h rfl
      cases h4 with
      | lst h4 =>
      obtain ⟨p1, rp⟩ := zdV hR h h1
      refine ⟨_, h1, a, rfl, .inl ⟨⟨_, .of h3⟩, ?_⟩⟩
      refine zfA p1.r (fun z => hfr ((p1.io i).1.mp z)) (fun W' H' x k => ?_) e2 fun W' σ' H' p => FlOk.back p1 (q W' σ' H' (p1.trans p hR))
      cases rp with
      | lst hq rp => exact ziZ (zku hq x) (rp.ext x) k
    · cases e1
theorem zn3 (hp : PassesOwn (model X.prog X.w) X.A X.env X.xe) (hc : IT X (prj fa) c cc) (hb : ISs X (zaS fa fuel ss) sts) : IS X (exS fa fuel (.while_ cc ss)) (.While c sts [] pos) :=
  .mk <| (zpB hp hc.h hb.h).imp fun D0 σ H zz3 => by
    obtain ⟨W, ρ, y, hR, hy, q⟩ := zz3
    simp only [znL] at hy
    refine ⟨fun m σ' H' => ∃ W' ρ', SPost X.K W ρ σ H W' ρ' σ' H' ∧ zc4 (evT (prj fa) cc) (zaS fa fuel ss) m ρ' = some y, ⟨fuel, W, ρ, .same hR (.refl H), hy⟩, ?_⟩
    rintro m σ' H' ⟨W', ρ', p, hw⟩
    cases m with
    | zero => simp [zc4] at hw
    | succ m =>
      rw [zc4, jo1] at hw
      obtain ⟨k, e1, e2⟩ := hw
      refine ⟨W', ρ', k, p.r, e1, fun H1 s1 => ?_⟩
      have p1 := SPost.same p.r s1
      have p01 := p.trans p1 hR
      cases k with
      | false =>
        rw [if_neg Bool.false_ne_true] at e2
        cases e2
        exact zxu (q W' σ' H1 p01)
      | true =>
        rw [if_pos rfl] at e2
        rw [jo1] at e2
        obtain ⟨⟨fl, ρ2⟩, e3, e4⟩ := e2
        refine zwg ⟨fun σ2 H2 => ∃ W' ρ', SPost X.K W ρ σ H W' ρ' σ2 H2 ∧ zc4 (evT (prj fa) cc) (zaS fa fuel ss) m ρ' = some y, fun σ2 H2 h => ⟨m, Nat.lt_succ_self m, h⟩, ?_⟩
        refine ⟨W', ρ', (fl, ρ2), p1.r, e3, fun W3 σ3 H3 p3 => ?_⟩
        have p03 := p01.trans p3 hR
        cases fl with
        | nx => exact ⟨W3, ρ2, p03, e4⟩
        | ct => exact ⟨W3, ρ2, p03, e4⟩
        | br => cases e4; exact q W3 σ3 H3 p03
        | rt r => cases e4; exact fun v hv => q W3 σ3 H3 p03 v (hv.back p01)
end
theorem zi1 (io : List Nat) : ∀ (ds : List D) (k i : Nat), (zdR io k ds)[i]? = (ds[i]?).map fun d => some (if io.contains (k + i) then SV.io d else .val d)
  | [], k, i => by simp [zdR]
  | d :: r, k, 0 => by simp [zdR]
  | d :: r, k, i + 1 => by
    rw [zdR, List.getElem?_cons_succ, zi1 io r (k + 1) i, List.getElem?_cons_succ]
    have : k + 1 + i = k + (i + 1) := by omega
    rw [this]
theorem zea (io : List Nat) : ∀ (ds : List D) (k : Nat), (zdR io k ds).length = ds.length
  | [], k => rfl
  | d :: r, k => by simp [zdR, zea io r (k + 1)]
theorem zso {io : List Nat} {ds : List D} {n : Nat} {i : Nat} {x : SV} (h : (zdR io 0 ds ++ List.replicate n Option.none)[i]? = some (some x)) :
    ∃ d, ds[i]? = some d ∧ x = if io.contains i then SV.io d else .val d := by
  by_cases hi : i < ds.length
  · rw [List.getElem?_append_left (by rw [zea]; exact hi), zi1, jo2] at h
    obtain ⟨d, e1, e2⟩ := h
    rw [Nat.zero_add] at e2
    exact ⟨d, e1, (Option.some.inj e2).symm⟩
  · rw [List.getElem?_append_right (by rw [zea]; omega)] at h
    rw [List.getElem?_replicate] at h
    split at h <;> cases h
theorem zdu {N : List Str} {vs : List V} {i : Nat} {v : V} (h : vs[i]? = some v) : (zd4 N vs)[i]? = some (some v) := by
  have hi : i < vs.length := (List.getElem?_eq_some_iff.mp h).1
  unfold zd4
  rw [List.getElem?_append_left (by simpa using hi), List.getElem?_map, h]
  rfl
theorem zkv {K : PySem.W.Frag} {W W' : Addr → Prop} {H' : Hp} {ρ' : LW.Env} {σ' : St} {vs : List V} (hR : R K W' ρ' σ' H') (sub : ∀ b, W b → W' b) : ∀ {io : List Nat} {outs : List D}, zc5 ρ' io = some outs → (∀ k ∈ io, ziC ρ' k → ∃ a, σ'[k]? = some (some (.ref a)) ∧ vs[k]? = some (.ref a)) → zwm K W H' io vs outs
  | [], outs, e, _ => by simp only [zc5] at e; cases e; exact .nil
  | k :: r, outs, e, hs => by
    simp only [zc5] at e
    split at e
    · rename_i d h
      rw [jo2] at e
      obtain ⟨l, e1, rfl⟩ := e
      obtain ⟨a, h1, h2⟩ := hs k List.mem_cons_self ⟨d, h⟩
      obtain ⟨a', o, h3, _, h5, h6⟩ := hR.own k _ d h rfl
      rw [h1] at h3; cases h3
      exact .cons ⟨a, o, h2, h5, h6.less sub⟩ (zkv hR sub e1 fun j hj => hs j (List.mem_cons_of_mem _ hj))
    · cases e
theorem zbr {Pg : Program} {w : World} {K : PySem.W.Frag} {mg : Str → Option Value} {base : Heap} {x qual : Str} {st : Stmt} {f : Addr} {fd : FuncData} {N ps : List Str} {k n i : Nat} {P : Nat → Option Fn} {fuel : Nat} {F0 : Fn} {io : List Nat}
    (F : Fun K x qual st f fd) (S : FnScope N ps (zaa st)) (hP : P i = some F0) (hnp : F0.np = ps.length) (hnl : F0.nl = N.length) (hio : F0.io = io) (hiop : io.all (fun k => decide (k < F0.np)) = true) (hxb : F0.xb = Option.none)
    (hbody : ∀ (cdv : Value) (A : Around) (outer : List PySem.Env) (s : Shared) (H : Hp) (E : XK), Room k (A.deeper (envOfC qual (zaa st) s.heap.objs.size f cdv)) →
      ISs (zcM CX0 Pg w K mg base N qual (zaa st) f cdv A outer s H E).nox (zaS (zas P fuel n) fuel F0.body) (zag st)) :
    FnOk Pg w K mg base CX0 (k + 1) f fd ps (spA K (zas P fuel (n + 1)) i io) := by
  subst hio
  have dec : ∀ {ds : List D} {r : Ans}, zas P fuel (n + 1) i ds = some r → ds.length = F0.np ∧ zpQ F0.io (zaS (zas P fuel n) fuel F0.body (zdR F0.io 0 ds ++ List.replicate (F0.nl - F0.np) Option.none)) = some r := fun {ds r} h => by
    rw [zas, hP] at h
    simp only [Option.bind_some, hxb] at h
    split at h
    · exact ⟨by assumption, h⟩
    · cases h
  refine F.ok S (fun vs H Q E h => ?_) (fun cdv A outer s H vs Q E hr h => ⟨_, (hbody cdv A outer s H E hr).h, ?_⟩)
  · obtain ⟨W, ds, r, outs, wf, rp, e, _⟩ := h
    rw [← rp.len, (dec e).1, hnp]
  · obtain ⟨W, ds, r, outs, wf, rp, e, q⟩ := h
    obtain ⟨hl, he⟩ := dec e
    have hlv := rp.len
    have hplN : ps.length ≤ N.length := by have := congrArg List.length S.pre; rw [List.length_take] at this; omega
    generalize hρ : zdR F0.io 0 ds ++ List.replicate (F0.nl - F0.np) Option.none = ρ at he
    have at_ : ∀ {j : Nat} {x : SV}, ρ[j]? = some (some x) → ∃ d, ds[j]? = some d ∧ x = if F0.io.contains j then SV.io d else .val d := fun {j x} h => by rw [← hρ] at h; exact zso h
    have own_io : ∀ a, Own ρ (zd4 N vs) a → ioV F0.io vs a := fun a zz1 => by
      obtain ⟨j, x, d, h1, hc, h2⟩ := zz1
      obtain ⟨d', e1, e2⟩ := at_ h1
      split at e2
      · rename_i hj
        have hj : j ∈ F0.io := by simpa using hj
        obtain ⟨b, o, h3, _⟩ := rp.obj j d' e1 hj
        rw [zdu h3] at h2
        cases h2
        exact ⟨j, hj, h3⟩
      · subst e2; cases hc
    have hR : R K W ρ (zd4 N vs) H := by
      refine ⟨fun j d h => ?_, fun j d h => ?_, fun j x d h hc => ?_, fun j k x y d e a h1 h2 c1 c2 h3 h4 => ?_, wf, ?_⟩
      · obtain ⟨d', e1, e2⟩ := at_ h
        split at e2
        · cases e2
        · rename_i hj
          cases e2
          obtain ⟨v, h1, h2⟩ := rp.val j d e1 (by simpa using hj)
          exact ⟨v, zdu h1, h2⟩
      · obtain ⟨d', e1, e2⟩ := at_ h
        split at e2 <;> cases e2
      · obtain ⟨d', e1, e2⟩ := at_ h
        split at e2
        · rename_i hj
          subst e2; cases hc
          obtain ⟨b, o, h3, h4, h5, h6⟩ := rp.obj j d e1 (by simpa using hj)
          exact ⟨b, o, zdu h3, h4, h5, h6⟩
        · subst e2; cases hc
      · obtain ⟨d1, e1, e2⟩ := at_ h1
        obtain ⟨d2, e3, e4⟩ := at_ h2
        split at e2
        · rename_i hj
          split at e4
          · rename_i hk
            have hj : j ∈ F0.io := by simpa using hj
            have hk : k ∈ F0.io := by simpa using hk
            obtain ⟨b, o, z1, _⟩ := rp.obj j d1 e1 hj
            obtain ⟨b', o', z2, _⟩ := rp.obj k d2 e3 hk
            rw [zdu z1] at h3; cases h3
            rw [zdu z2] at h4; cases h4
            exact rp.inj j k _ hj hk z1 z2
          · subst e4; cases c2
        · subst e2; cases c1
      · rw [← hρ]
        unfold zd4
        rw [List.length_append, List.length_append, zea, List.length_map, List.length_replicate, List.length_replicate]
        omega
    cases hx : zaS (zas P fuel n) fuel F0.body ρ with
    | none => rw [hx] at he; cases he
    | some y =>
      rw [hx] at he
      obtain ⟨fl, ρ'⟩ := y
      refine ⟨W, ρ, (fl, ρ'), hR, hx, fun W' σ' H' p => ?_⟩
      have kp : ∀ a o, H a = some o → ¬ ioV F0.io vs a → H' a = some o := fun b o h n => p.keep b o h fun z => n (own_io b z)
      have io_at : ∀ k ∈ F0.io, ziC ρ' k → ∃ a, σ'[k]? = some (some (.ref a)) ∧ vs[k]? = some (.ref a) := fun j hj z => by
        have z0 := (p.io j).1.mp z
        obtain ⟨d0, z1⟩ := z0
        obtain ⟨d', e1, e2⟩ := at_ z1
        obtain ⟨b, o, h3, _⟩ := rp.obj j d' e1 hj
        exact ⟨b, by rw [(p.io j).2 ⟨d0, z1⟩, zdu h3], h3⟩
      have sub : ∀ b, W b → W' b := fun b w => by
        by_cases hb : Own ρ (zd4 N vs) b
        · obtain ⟨j, x, d, h1, hc, h2⟩ := hb
          obtain ⟨d', e1, e2⟩ := at_ h1
          split at e2
          · subst e2
            obtain ⟨d2, z⟩ := (p.io j).1.mpr ⟨d', h1⟩
            obtain ⟨a', o, h3, h4, _⟩ := p.r.own j _ d2 z rfl
            rw [(p.io j).2 ⟨d', h1⟩, h2] at h3
            cases h3
            exact h4
          · subst e2; cases hc
        · exact (p.wout b w hb).1
      cases fl with
      | br => cases he
      | ct => cases he
      | nx =>
        simp only [zpQ, jo2] at he
        obtain ⟨l, e1, e2⟩ := he
        cases e2
        exact q _ H' kp (zkv p.r sub e1 io_at) (.val .non)
      | rt r' =>
        simp only [zpQ, jo2] at he
        obtain ⟨l, e1, e2⟩ := he
        cases e2
        intro v hv
        have ho := zkv p.r sub e1 io_at
        cases hv with
        | val h => exact q v H' kp ho (.val (h.less sub))
        | new h nn n' eL rr =>
          have ha := (p.win _ h).resolve_left fun w => nn ⟨w, fun zz0 => by
            obtain ⟨j, x, d, h1, hc, h2⟩ := zz0
            obtain ⟨d', e1, e2⟩ := at_ h1
            split at e2
            · subst e2; exact n' ⟨j, ⟨d', h1⟩, h2⟩
            · subst e2; cases hc⟩
          refine q _ H' kp ho (.new ha eL (rr.less fun b w => ?_))
          rcases w with w | rfl
          · exact sub b w
          · exact h
end L2.LW
set_option maxHeartbeats 4000000
namespace L2.LW
open PySem PySem.Spec PyProof.Rows
noncomputable def zkf (env : PySem.Env) : List (Str × NameKind) → List (Str × Addr) → List (Str × Addr)
  | [], acc => acc
  | (n, k) :: r, acc => if k == .free then zkf env r ((n, (env.cells.lookup n).getD 0) :: acc) else zkf env r acc
theorem zg3 (env : PySem.Env) : ∀ (names : List (Str × NameKind)) (acc : List (Str × Addr)), (∀ y ∈ names, y.2 = .free → (env.cells.lookup y.1).isSome = true) →
    (forIn names acc fun (x : Str × NameKind) (cs : List (Str × Addr)) => (if (x.2 == NameKind.free) = true then (do let c ← cellOf env x.1; pure (ForInStep.yield ((x.1, c) :: cs)) : Sem (ForInStep (List (Str × Addr)))) else pure (ForInStep.yield cs))) = (pure (zkf env names acc) : Sem (List (Str × Addr)))
  | [], acc, _ => rfl
  | (n, k) :: r, acc, h => by
    have ih := fun acc => zg3 env r acc fun y hy => h y (List.mem_cons_of_mem _ hy)
    rw [List.forIn_cons]
    by_cases hk : (k == NameKind.free) = true
    · have hs := h (n, k) List.mem_cons_self (by simpa using hk)
      obtain ⟨c, hc⟩ := Option.isSome_iff_exists.mp hs
      have hc : env.cells.lookup n = some c := hc
      simp only [hk, if_true, cellOf, hc, zkf, Option.getD_some]
      show (forIn r ((n, c) :: acc) _ : Sem _) = _
      exact ih _
    · simp only [hk, if_false, zkf]
      show (forIn r acc _ : Sem _) = _
      exact ih _
theorem zfS {scope : Scope} {env : PySem.Env} (h : ∀ y ∈ scope.names, y.2 = .free → (env.cells.lookup y.1).isSome = true) : closureFor scope env = pure (zkf env scope.names []) := by
  have key : closureFor scope env = ((forIn scope.names ([] : List (Str × Addr)) fun (x : Str × NameKind) (cs : List (Str × Addr)) =>
    (if (x.2 == NameKind.free) = true then (do let c ← cellOf env x.1; pure (ForInStep.yield ((x.1, c) :: cs)) : Sem (ForInStep (List (Str × Addr)))) else pure (ForInStep.yield cs))) >>= fun cs => pure cs) := rfl
  rw [key, zg3 env scope.names [] h]
  rfl
theorem zcP {env : PySem.Env} {y : Str} {c : Addr} : ∀ {names : List (Str × NameKind)} {acc : List (Str × Addr)}, (∀ z ∈ names, z.2 = .free → (env.cells.lookup z.1).isSome = true) → (zkf env names acc).lookup y = some c →
    acc.lookup y = some c ∨ env.cells.lookup y = some c
  | [], _, _, e => .inl e
  | (n, k) :: r, acc, h, e => by
    unfold zkf at e
    split at e
    · rename_i hk
      rcases zcP (fun z hz => h z (List.mem_cons_of_mem _ hz)) e with q | q
      · rw [List.lookup_cons] at q
        split at q
        · rename_i hy
          have hy : y = n := by simpa using hy
          subst hy
          obtain ⟨c', hc⟩ := Option.isSome_iff_exists.mp (h (y, k) List.mem_cons_self (by simpa using hk))
          have hc : env.cells.lookup y = some c' := hc
          rw [hc] at q
          cases q
          exact .inr hc
        · exact .inl q
      · exact .inr q
    · exact zcP (fun z hz => h z (List.mem_cons_of_mem _ hz)) e
theorem zhM {env : PySem.Env} {y : Str} : ∀ {names : List (Str × NameKind)} {acc : List (Str × Addr)}, ((acc.lookup y).isSome = true ∨ (y, NameKind.free) ∈ names) → ((zkf env names acc).lookup y).isSome = true
  | [], acc, h => by
    rcases h with h | h
    · exact h
    · cases h
  | (n, k) :: r, acc, h => by
    unfold zkf
    split
    · rename_i hk
      refine zhM ?_
      by_cases e : y = n
      · subst e; exact .inl (by simp)
      · have hb : (y == n) = false := by simpa using e
        rcases h with h | h
        · exact .inl (by rw [List.lookup_cons, hb]; exact h)
        · rcases List.mem_cons.mp h with z | z
          · cases z; exact absurd rfl e
          · exact .inr z
    · rename_i hk
      refine zhM ?_
      rcases h with h | h
      · exact .inl h
      · rcases List.mem_cons.mp h with z | z
        · cases z; exact absurd rfl hk
        · exact .inr z
noncomputable def zq8 (x : Str) (N : List Str) : List Str := N.map fun y => if y = x then ("" : Str) else y
noncomputable def zdJ (scope : Scope) (x : Str) (c : Addr) (cl : List (Str × Addr)) : List (Str × Addr) := if scope.names.lookup x = some .cell then (x, c) :: cl else cl
noncomputable def zbL (X : Cx) (scope : Scope) (x : Str) (s₃ : Shared) (H₃ : Hp) (fp : List Addr) (pins : List (Addr × Obj)) : Cx :=
  { X with N := x :: zq8 x X.N, s₀ := s₃, H₀ := H₃, env := compEnvC scope (zdJ scope x (s₃.heap.objs.size + 1) (zkf X.env scope.names [])) s₃.heap.objs.size X.env, outer := X.stack, stack := X.stack, ex := fp, fn := fun y => decide (y = x) && decide (scope.names.lookup x = some .cell), pn := X.pn ++ pins, xe := fun _ _ => False }
structure CompSc (X : Cx) (scope : Scope) (x : Str) : Prop where
  kind : scope.kind = .function
  loc : scope.names.lookup x = some .local ∨ scope.names.lookup x = some .cell
  names : ∀ y ∈ scope.names, y.2 = .local → scope.names.lookup y.1 = some .local
  cell1 : scope.names.filter (fun y => y.2 == .cell) = if scope.names.lookup x = some .cell then [(x, .cell)] else []
  free : ∀ y ∈ scope.names, y.2 = .free → X.env.scope.names.lookup y.1 = some .cell ∨ X.env.scope.names.lookup y.1 = some .free
  own : ∀ y ∈ X.N, scope.names.lookup y = some .local → y = x
  none : scope.names.lookup ("" : Str) = Option.none
  nd : (x :: zq8 x X.N).Nodup
theorem zdv {y : Str} {k : NameKind} : ∀ {l : List (Str × NameKind)}, l.lookup y = some k → (y, k) ∈ l
  | [], h => by cases h
  | (n, j) :: r, h => by
    rw [List.lookup_cons] at h
    split at h
    · rename_i e
      have e : y = n := by simpa using e
      cases h; subst e
      exact List.mem_cons_self
    · exact List.mem_cons_of_mem _ (zdv h)
theorem zbm {env : PySem.Env} {y : Str} {k : NameKind} : ∀ {names : List (Str × NameKind)},
    (names.map fun (z : Str × NameKind) => match z with | (n, k) => if (k == NameKind.free && env.scope.kind == .function && env.kindOf n == some .cell) = true then (n, NameKind.cell) else (n, k)).lookup y = some k →
    names.lookup y = some k ∨ (k = .cell ∧ names.lookup y = some .free)
  | [], h => by cases h
  | (n, j) :: r, h => by
    rw [List.map_cons, List.lookup_cons] at h
    rw [List.lookup_cons]
    by_cases hc : (j == NameKind.free && env.scope.kind == .function && env.kindOf n == some .cell) = true
    · simp only [hc, if_true] at h
      cases e : y == n with
      | true =>
        rw [e] at h
        cases h
        have hj : j = .free := by
          simp only [Bool.and_eq_true] at hc
          simpa using hc.1.1
        exact .inr ⟨rfl, by rw [hj]⟩
      | false => rw [e] at h; exact zbm h
    · simp only [hc, Bool.false_eq_true, if_false] at h
      cases e : y == n with
      | true => rw [e] at h; exact .inl h
      | false => rw [e] at h; exact zbm h
section
variable {X : Cx} {scope : Scope} {x : Str} {s₃ : Shared} {H₃ : Hp} {fp : List Addr} {pins : List (Addr × Obj)} {σ : St}
theorem CompSc.onlyC (S : CompSc X scope x) {y : Str} (h : scope.names.lookup y = some .cell) : y = x ∧ scope.names.lookup x = some .cell := by
  have hm : (y, NameKind.cell) ∈ scope.names.filter (fun y => y.2 == .cell) := List.mem_filter.mpr ⟨zdv h, rfl⟩
  rw [S.cell1] at hm
  split at hm
  · simp at hm; subst hm; exact ⟨rfl, h⟩
  · cases hm
theorem zeb {x : Str} : ∀ (names : List (Str × NameKind)) (a : Nat) (acc : List (Str × Addr)) (h : Heap), names.filter (fun y => y.2 == .cell) = [(x, .cell)] → cellsFrom a names acc = (x, a) :: acc ∧ pushCells h names = h.push { cls := .type "cell", data := .cell Option.none }
  | [], _, _, _, e => by cases e
  | (n, k) :: r, a, acc, h, e => by
    have none_ : ∀ (names : List (Str × NameKind)) (a : Nat) (acc : List (Str × Addr)) (h : Heap), names.filter (fun y => y.2 == .cell) = [] → cellsFrom a names acc = acc ∧ pushCells h names = h := by
      intro names
      induction names with
      | nil => intro a acc h _; exact ⟨rfl, rfl⟩
      | cons y r ih =>
        intro a acc h e
        obtain ⟨n, k⟩ := y
        rw [List.filter_cons] at e
        split at e
        · cases e
        · rename_i hk
          have hk : (k == NameKind.cell) = false := by simpa using hk
          unfold cellsFrom pushCells
          rw [hk]
          exact ih a acc h e
    rw [List.filter_cons] at e
    split at e
    · rename_i hk
      injection e with e1 e2
      cases e1
      unfold cellsFrom pushCells
      simp only [beq_self_eq_true, if_true]
      exact none_ r _ _ _ e2
    · rename_i hk
      have hk : (k == NameKind.cell) = false := by simpa using hk
      unfold cellsFrom pushCells
      rw [hk]
      exact zeb r a acc h e
theorem zdK : ∀ (names : List (Str × NameKind)) (a : Nat) (acc : List (Str × Addr)) (h : Heap), names.filter (fun y => y.2 == .cell) = [] → cellsFrom a names acc = acc ∧ pushCells h names = h
  | [], _, _, _, _ => ⟨rfl, rfl⟩
  | (n, k) :: r, a, acc, h, e => by
    rw [List.filter_cons] at e
    split at e
    · cases e
    · rename_i hk
      have hk : (k == NameKind.cell) = false := by simpa using hk
      unfold cellsFrom pushCells
      rw [hk]
      exact zdK r a acc h e
theorem zkw {M : Model} {A : Around} {E : Value → Shared → Prop} {s : Shared} {globals : Addr} {cl : List (Str × Addr)} {qual : Str} {env : PySem.Env} {Q : PySem.Env → Shared → Prop} (S : CompSc X scope x)
    (h : ∀ h₁, h₁.Ns s.heap.objs.size (fun _ => Option.none) → (∀ b o, s.heap.get? b = some o → h₁.get? b = some o) → (scope.names.lookup x = some .cell → h₁.IsCell (s.heap.objs.size + 1) Option.none) →
      Q (newEnv scope s.heap.objs.size globals (zdJ scope x (s.heap.objs.size + 1) cl) qual Option.none .none (some env) builtinsNs) { s with heap := h₁ }) :
    wpAny M A (newFunctionEnv scope globals cl [] qual Option.none .none (some env)) Q E s := by
  simp only [newFunctionEnv, Option.isSome_some, if_true]
  refine wpAny_bind (wpAny_alloc ?_)
  refine wpAny_bind (wpAny_layCells _ (fun name kind cells => by cases hkc : kind == NameKind.cell <;> simp [hkc]) _ _ _ _ ?_)
  rw [List.forIn_nil]
  refine wpAny_bind (wpAny_pure (wpAny_pure ?_))
  rw [show ({ s with heap := s.heap.push { cls := .type "dict", data := .dict #[] } } : Shared).heap.objs.size = s.heap.objs.size + 1 from Heap.size_push ..]
  have hc := S.cell1
  by_cases hx : scope.names.lookup x = some .cell
  · rw [if_pos hx] at hc
    obtain ⟨e1, e2⟩ := zeb (x := x) scope.names (s.heap.objs.size + 1) cl (s.heap.push { cls := .type "dict", data := .dict #[] }) hc
    have h' := h (pushCells (s.heap.push { cls := .type "dict", data := .dict #[] }) scope.names) ((Heap.Ns.new s.heap (.type "dict")).keeps (pushCells_keeps _ _)) (fun b o e => pushCells_keeps _ _ b o (Heap.get?_push_of_some _ e)) (fun _ => by
      rw [e2]
      have : (s.heap.push { cls := .type "dict", data := .dict #[] }).objs.size = s.heap.objs.size + 1 := Heap.size_push ..
      rw [← this]
      exact ⟨_, Heap.get?_push_size _ rfl, rfl⟩)
    rw [e1]
    unfold zdJ at h'
    rw [if_pos hx] at h'
    exact h'
  · rw [if_neg hx] at hc
    obtain ⟨e1, e2⟩ := zdK scope.names (s.heap.objs.size + 1) cl (s.heap.push { cls := .type "dict", data := .dict #[] }) hc
    have h' := h (pushCells (s.heap.push { cls := .type "dict", data := .dict #[] }) scope.names) ((Heap.Ns.new s.heap (.type "dict")).keeps (pushCells_keeps _ _)) (fun b o e => pushCells_keeps _ _ b o (Heap.get?_push_of_some _ e)) (fun z => absurd z hx)
    rw [e1]
    unfold zdJ at h'
    rw [if_neg hx] at h'
    exact h'
theorem CompSc.cells (S : CompSc X scope x) (ok : X.Ok) : ∀ y ∈ scope.names, y.2 = .free → (X.env.cells.lookup y.1).isSome = true := fun y hy hk => by
  obtain ⟨c, hc⟩ := ok.has y.1 (S.free y hy hk)
  rw [hc]; rfl
theorem CompSc.look (S : CompSc X scope x) (ok : X.Ok) {y : Str} {c : Addr} (h : (zbL X scope x s₃ H₃ fp pins).env.cells.lookup y = some c) :
    (y = x ∧ scope.names.lookup x = some .cell ∧ c = s₃.heap.objs.size + 1) ∨ ((y ≠ x ∨ scope.names.lookup x ≠ some .cell) ∧ X.env.cells.lookup y = some c) := by
  have h : (zdJ scope x (s₃.heap.objs.size + 1) (zkf X.env scope.names [])).lookup y = some c := h
  have old : (zkf X.env scope.names []).lookup y = some c → X.env.cells.lookup y = some c := fun h => by
    rcases zcP (S.cells ok) h with q | q
    · cases q
    · exact q
  unfold zdJ at h
  split at h
  · rename_i hc
    rw [List.lookup_cons] at h
    split at h
    · rename_i e
      cases h
      exact .inl ⟨by simpa using e, hc, rfl⟩
    · rename_i e
      exact .inr ⟨.inl (by simpa using e), old h⟩
  · rename_i hc
    exact .inr ⟨.inr hc, old h⟩
theorem CompSc.kindOf (S : CompSc X scope x) {y : Str} (h : (zbL X scope x s₃ H₃ fp pins).env.kindOf y = some .cell ∨ (zbL X scope x s₃ H₃ fp pins).env.kindOf y = some .free) : scope.names.lookup y = some .free ∨ (y = x ∧ scope.names.lookup x = some .cell) := by
  rcases h with h | h
  · rcases zbm (show _ = _ from h) with q | ⟨_, q⟩
    · exact .inr (S.onlyC q)
    · exact .inl q
  · rcases zbm (show _ = _ from h) with q | ⟨z, q⟩
    · exact .inl q
    · cases z
theorem CompSc.has (S : CompSc X scope x) {y : Str} (h : scope.names.lookup y = some .free) : ∃ c, (zbL X scope x s₃ H₃ fp pins).env.cells.lookup y = some c ∧ (zkf X.env scope.names []).lookup y = some c := by
  obtain ⟨c, hc⟩ := Option.isSome_iff_exists.mp (zhM (env := X.env) (names := scope.names) (acc := []) (y := y) (.inr (zdv h)))
  refine ⟨c, ?_, hc⟩
  show (zdJ scope x (s₃.heap.objs.size + 1) (zkf X.env scope.names [])).lookup y = some c
  unfold zdJ
  split
  · rename_i hx
    have : (y == x) = false := by
      cases e : y == x with
      | false => rfl
      | true => have e : y = x := by simpa using e
                subst e; rw [h] at hx; cases hx
    rw [List.lookup_cons, this]
    exact hc
  · exact hc
theorem zdf {env : PySem.Env} {y : Str} : ∀ {names : List (Str × NameKind)}, names.lookup y = some .cell →
    (names.map fun (z : Str × NameKind) => match z with | (n, k) => if (k == NameKind.free && env.scope.kind == .function && env.kindOf n == some .cell) = true then (n, NameKind.cell) else (n, k)).lookup y = some .cell
  | [], h => by cases h
  | (n, j) :: r, h => by
    rw [List.lookup_cons] at h
    rw [List.map_cons, List.lookup_cons]
    by_cases hc : (j == NameKind.free && env.scope.kind == .function && env.kindOf n == some .cell) = true
    · simp only [hc, if_true]
      cases e : y == n with
      | true => rfl
      | false => rw [e] at h; exact zdf h
    · simp only [hc, Bool.false_eq_true, if_false]
      cases e : y == n with
      | true => rw [e] at h; exact h
      | false => rw [e] at h; exact zdf h
theorem CompSc.locX (S : CompSc X scope x) : Loc (zbL X scope x s₃ H₃ fp pins).env.scope x := by
  rcases S.loc with h | h
  · exact .inl (lookup_relabel_local h)
  · exact .inr (zdf h)
theorem CompSc.fnX (S : CompSc X scope x) : (zbL X scope x s₃ H₃ fp pins).fn x = true ∨ (zbL X scope x s₃ H₃ fp pins).env.scope.names.lookup x = some .local := by
  rcases S.loc with h | h
  · exact .inr (lookup_relabel_local h)
  · left
    show (decide (x = x) && decide (scope.names.lookup x = some .cell)) = true
    simp [h]
theorem zn4 (S : CompSc X scope x) (I : Inv X pins σ H₃ s₃) (hf : ∀ b ∈ fp, zm8 X pins H₃ b) (hlt : ∀ b ∈ fp, b < s₃.heap.objs.size) : (zbL X scope x s₃ H₃ fp pins).Ok where
  mod := I.ok.mod
  kind := S.kind
  glob := I.ok.glob
  blt := I.ok.blt
  above := Nat.le_refl _
  inj := fun y z c h1 h2 => by
    have old : ∀ {y : Str} {c : Addr}, X.env.cells.lookup y = some c → c < s₃.heap.objs.size := fun {y c} h => by
      obtain ⟨v, o, ho, _⟩ := I.cell y c h
      exact Heap.lt_size ho
    rcases S.look I.ok h1 with ⟨e1, _, e2⟩ | ⟨_, q1⟩
    · rcases S.look I.ok h2 with ⟨e3, _, e4⟩ | ⟨_, q2⟩
      · rw [e1, e3]
      · have := old q2; rw [e2] at this; exact absurd this (Nat.not_lt.mpr (Nat.le_succ _))
    · rcases S.look I.ok h2 with ⟨e3, _, e4⟩ | ⟨_, q2⟩
      · have := old q1; rw [e4] at this; exact absurd this (Nat.not_lt.mpr (Nat.le_succ _))
      · exact I.ok.inj y z c q1 q2
  has := fun y h => by
    rcases S.kindOf h with q | ⟨q1, q2⟩
    · obtain ⟨c, hc, _⟩ := S.has (s₃ := s₃) (H₃ := H₃) (fp := fp) (pins := pins) q
      exact ⟨c, hc⟩
    · refine ⟨s₃.heap.objs.size + 1, ?_⟩
      show (zdJ scope x (s₃.heap.objs.size + 1) (zkf X.env scope.names [])).lookup y = _
      unfold zdJ
      rw [if_pos q2, q1, List.lookup_cons, beq_self_eq_true]
  cab := fun y c h hc => by
    have h : (decide (y = x) && decide (scope.names.lookup x = some .cell)) = true := h
    rw [Bool.and_eq_true, decide_eq_true_iff, decide_eq_true_iff] at h
    rcases S.look I.ok hc with ⟨_, _, e⟩ | ⟨q, _⟩
    · rw [e]; exact Nat.le_succ _
    · exact absurd h (fun z => q.elim (fun w => w z.1) fun w => w z.2)
  hd := I.ok.hd
  frames := I.ok.frames
  stk := .inl rfl
  exf := fun b hb => ⟨Nat.ne_of_lt (hlt b hb), fun y c h => by
    rcases S.look I.ok h with ⟨_, _, e⟩ | ⟨_, q⟩
    · rw [e]; exact fun z => absurd (z ▸ hlt b hb) (Nat.not_lt.mpr (Nat.le_succ _))
    · exact (hf b hb).2.2.2.2.1 y c q⟩
  bs := I.bs
  bsz := Nat.le_trans I.ok.bsz I.sz
  noex := fun b o e hb => by
    obtain ⟨_, _, _, h, _⟩ := hf b hb
    rcases h with h | h
    · exact I.ok.noex b o e h
    · exact absurd (Nat.lt_of_lt_of_le (Heap.lt_size e) (Nat.le_trans I.ok.bsz h)) (Nat.lt_irrefl _)
  exfs := fun b hb hz => by
    obtain ⟨_, h1, h2, _⟩ := hf b hb
    rcases List.mem_cons.mp (I.stkSub b hz) with e | e
    · exact h1 e
    · exact h2 e
  funs := I.stack
  frf := I.stkFree
theorem zpX {N : List Str} {i : Nat} {y : Str} (h : (zq8 x N)[i]? = some y) : ∃ z, N[i]? = some z ∧ ((z = x ∧ y = "") ∨ (z ≠ x ∧ y = z)) := by
  unfold zq8 at h
  rw [List.getElem?_map, jo2] at h
  obtain ⟨z, e1, e2⟩ := h
  refine ⟨z, e1, ?_⟩
  split at e2
  · exact .inl ⟨by assumption, e2.symm⟩
  · exact .inr ⟨by assumption, e2.symm⟩
theorem zpY {h₁ : Heap} {tk : Nat} (S : CompSc X scope x) (I : Inv X pins σ H₃ s₃) (hf : ∀ b ∈ fp, zm8 X pins H₃ b) (hlt : ∀ b ∈ fp, b < s₃.heap.objs.size) (hns : h₁.Ns s₃.heap.objs.size fun _ => Option.none)
    (hk : ∀ b o, s₃.heap.get? b = some o → h₁.get? b = some o) (zgz : scope.names.lookup x = some .cell → h₁.IsCell (s₃.heap.objs.size + 1) Option.none) : Inv (zbL X scope x s₃ H₃ fp pins) [] (Option.none :: σ) H₃ { s₃ with heap := h₁, toks := tk } := by
  refine ⟨zn4 S I hf hlt, rfl, I.bare, Un.kept hk, ⟨_, hns, fun i y v h1 h2 h3 => ?_⟩, fun y c h => ?_, I.hok.fresh (Nat.le_refl _), fun y c h => ?_, fun p hp => ?_, I.hok.kept hk, ?_⟩
  · cases i with
    | zero => cases h2
    | succ i =>
      have h1 : (zq8 x X.N)[i]? = some y := h1
      have h2 : σ[i]? = some (some v) := h2
      obtain ⟨z, e1, e2⟩ := zpX h1
      have vis : scope.names.lookup y = some .local ∨ scope.names.lookup y = some .free := by
        rcases h3 with q | q
        · rcases zbm (show _ = _ from q) with q | ⟨z, q⟩
          · exact .inl q
          · cases z
        · rcases S.kindOf q with q | ⟨q, _⟩
          · exact .inr q
          · exfalso
            rcases e2 with ⟨_, z⟩ | ⟨ne, z⟩
            · have hx : x = "" := q.symm.trans z
              have hn := S.none
              rw [← hx] at hn
              rcases S.loc with w | w <;> rw [hn] at w <;> cases w
            · exact ne (z.symm.trans q)
      rcases e2 with ⟨rfl, rfl⟩ | ⟨ne, rfl⟩
      · rw [S.none] at vis
        rcases vis with q | q <;> cases q
      · rcases vis with q | q
        · exact absurd (S.own y (List.mem_of_getElem? e1) q) ne
        · have kx := S.free _ (zdv q) rfl
          obtain ⟨m, _, hl⟩ := I.loc
          obtain ⟨u, ru, l⟩ := hl i y v e1 h2 (.inr kx)
          refine ⟨u, ru, .inr ⟨?_, ?_⟩⟩
          · rcases h3 with q' | q'
            · rcases zbm (show _ = _ from q') with q' | ⟨z, _⟩
              · rw [q] at q'; cases q'
              · cases z
            · exact q'
          · rcases l with ⟨k, _⟩ | ⟨_, c, hc, hcell'⟩
            · have k : X.env.scope.names.lookup y = some .local := k
              rcases kx with z | z
              · have z : X.env.scope.names.lookup y = some .cell := z
                rw [z] at k; cases k
              · have z : X.env.scope.names.lookup y = some .free := z
                rw [z] at k; cases k
            · obtain ⟨c', hc', hc2⟩ := S.has (s₃ := s₃) (H₃ := H₃) (fp := fp) (pins := pins) q
              have e : X.env.cells.lookup y = some c' := by
                rcases zcP (S.cells I.ok) hc2 with q | q
                · cases q
                · exact q
              rw [hc] at e
              cases e
              obtain ⟨o, ho, hd⟩ := hcell'
              exact ⟨c, hc', o, hk _ _ ho, hd⟩
  · rcases S.look I.ok h with ⟨_, q, e⟩ | ⟨_, q⟩
    · rw [e]; exact ⟨Option.none, zgz q⟩
    · obtain ⟨v, o, ho, hd⟩ := I.cell y c q
      exact ⟨v, o, hk _ _ ho, hd⟩
  · rcases S.look I.ok h with ⟨_, q, e⟩ | ⟨_, q⟩
    · rw [e]; exact I.hok.fresh (Nat.le_succ _)
    · exact I.freeC y c q
  · have hp : p ∈ X.pn ++ pins := by simpa [zbL] using hp
    obtain ⟨e, n, ne, nf, d⟩ := I.pin p hp
    refine ⟨hk _ _ e, n, Nat.ne_of_lt (Heap.lt_size e), fun z => ?_, d⟩
    rcases List.mem_cons.mp (I.stkSub _ z) with q | q
    · exact ne q
    · exact nf q
  · show σ.length + 1 = (x :: zq8 x X.N).length
    unfold zq8
    rw [List.length_cons, List.length_map, I.len]
theorem zn5 {s' : Shared} {h' : Heap} {H' : Hp} {σ' : St} {ps : List (Addr × Obj)} (I : Inv X pins σ H₃ s₃) (hf : ∀ b ∈ fp, zm8 X pins H₃ b) (J : Inv (zbL X scope x s₃ H₃ fp pins) ps σ' H' s') (hs : Heap.SameBut s₃.heap.objs.size s'.heap h') :
    Inv X pins σ H' { s' with heap := h' } := by
  have ne : ∀ b o, s₃.heap.get? b = some o → b ≠ s₃.heap.objs.size := fun b o e => Nat.ne_of_lt (Heap.lt_size e)
  have fr : H' s₃.heap.objs.size = Option.none := J.free
  have same : ∀ b, b ≠ s₃.heap.objs.size → h'.get? b = s'.heap.get? b := fun b hb => hs.2 b hb
  refine I.call' (s' := { s' with heap := h' }) (ch := fp) J.os ⟨fun b o e n hb hx => ?_, fun b o e n hb hx => ?_, fun b o e n hx => J.base.free b o e n hx, fun b o e hx => ?_, J.base.tups, J.base.frzs, J.base.tbls⟩ (fun b o e => ?_) J.bare fun b hb => ?_
  · exact (same b (ne b o e)).trans (J.base.keep b o e n hb hx)
  · obtain ⟨sl, q⟩ := J.base.slot b o e n hb hx
    exact ⟨sl, (same b (ne b o e)).trans q⟩
  · obtain ⟨o', q⟩ := J.base.there b o e hx
    exact ⟨o', (same b (ne b o e)).trans q⟩
  · refine (J.hok b o e).stay (fun c v hc q => (same c ?_).trans q) (fun _ q => q) fun _ _ q => q
    intro z
    rcases hc with w | w
    · rw [← w, z, fr] at e; cases e
    · rw [z, fr] at w; cases w
  · obtain ⟨_, h1, _, h3, h4, h5⟩ := hf b hb
    exact ⟨h3, h1, h4, h5⟩
end
theorem zmv {prog : Program} {w : World} {A : Around} {E : Result → Shared → Prop} {s : Shared} {elt target iter : Expr} {ifs : List Expr} {scope : Scope} {pos : Pos} {it acc : Value} {env : PySem.Env} (J : Nat → Shared → Prop)
    (turn : ∀ n s, J n s → wpAny (model prog w) A (pyNext it) (fun r s1 => match r with
      | Option.none => E (.ok .next) s1
      | some v => wpAny (model prog w) A (letOwnedTupleGo target it v) (fun _ s2 => wpAny (model prog w) A (assign target env v) (fun _ s3 =>
          wpAny (model prog w) A (forIn ifs true fun c r => if r = true then do let ok ← isTrue c env (eval c env); pure (ForInStep.yield ok) else pure (ForInStep.yield r)) (fun ok s4 =>
            if ok = true then wpAny (model prog w) A (eval elt env) (fun y s5 => wpAny (model prog w) A (call (.builtin "list.append") [acc, y]) (fun _ s6 => ∃ m, m < n ∧ J m s6) (fun _ _ => False) s5) (fun _ _ => False) s4
            else ∃ m, m < n ∧ J m s4) (fun _ _ => False) s3) (fun _ _ => False) s2) (fun _ _ => False) s1) (fun _ _ => False) s)
    (n : Nat) (h : J n s) : codeAny (model prog w) A (.compLoop (.ListComp elt [⟨target, iter, ifs, 0⟩] scope pos) 0 it acc env) E s := by
  refine codeAny_loop rfl J (fun n s hJ => ?_) n h
  show wpAny _ _ ((compTurn (.ListComp elt [⟨target, iter, ifs, 0⟩] scope pos) 0 it acc env).onRaise _) _ _ s
  refine wpAny_noted ?_
  rw [compTurn_list]
  have no : ∀ (e : Value) (s' : Shared), False → notedBy (model prog w) A env (fun e s' => E (.error e) s') e s' := fun _ _ z => z.elim
  refine wpAny_bind (wpAny_standAt (wpAny_bind (wpAny_mono (turn n s hJ) (fun r s1 h1 => ?_) no)))
  cases r with
  | none => exact wpAny_pure h1
  | some v =>
    refine wpAny_bind (wpAny_mono h1 (fun _ s2 h2 => ?_) no)
    refine wpAny_bind (wpAny_mono h2 (fun _ s3 h3 => wpAny_bind (wpAny_mono h3 (fun ok s4 h4 => ?_) no)) no)
    cases ok with
    | false => exact wpAny_pure ⟨rfl, h4⟩
    | true => exact wpAny_bind (wpAny_bind (wpAny_mono h4 (fun y s5 h5 => wpAny_bind (wpAny_mono h5 (fun _ s6 h6 => wpAny_pure (wpAny_pure ⟨rfl, h6⟩)) no)) no))
theorem R.cons {K : PySem.W.Frag} {W : Addr → Prop} {ρ : LW.Env} {σ : St} {H : Hp} {d : D} {v : V} (r : R K W ρ σ H) (h : Rep K W H d v) : R K W (some (.val d) :: ρ) (some v :: σ) H := by
  refine ⟨fun i e hi => ?_, fun i e hi => ?_, fun i x e hi hc => ?_, fun i j x y d e a h1 h2 c1 c2 h3 h4 => ?_, r.wf, by simpa using r.len⟩
  · cases i with
    | zero => cases hi; exact ⟨v, rfl, h⟩
    | succ i => exact r.val i e hi
  · cases i with
    | zero => cases hi
    | succ i => exact r.nol i e hi
  · cases i with
    | zero => cases hi; cases hc
    | succ i => exact r.own i x e hi hc
  · cases i with
    | zero => cases h1; cases c1
    | succ i =>
      cases j with
      | zero => cases h2; cases c2
      | succ j => rw [r.inj i j x y d e a h1 h2 c1 c2 h3 h4]
noncomputable def zlw (X : Cx) (fn : Nat → List D → Option SV) (scope : Scope) (x : Str) (ifs : List Expr) (cond : E) : Prop :=
  (ifs = [] ∧ cond = .bl true) ∨ ∃ c, ifs = [c] ∧ ∀ s₃ H₃ fp pins, IT (zbL X scope x s₃ H₃ fp pins) fn c cond
section
variable {X : Cx} {fn : Nat → List D → Option SV}
theorem zpZ {scope : Scope} {x : Str} {ifs : List Expr} {cond : E} {s₃ : Shared} {H₃ : Hp} {fp : List Addr} {pins ps : List (Addr × Obj)} {σ : St} {H : Hp} {s : Shared} {W : Addr → Prop} {ρ : LW.Env} {k : Bool} {Q : Bool → Hp → Prop}
    (hc : zlw X fn scope x ifs cond) (I : Inv (zbL X scope x s₃ H₃ fp pins) ps σ H s) (hR : R X.K W ρ σ H) (he : evT fn cond ρ = some k) (q : ∀ H', Same H H' → Q k H') :
    wpAny (model X.prog X.w) X.A (forIn ifs true fun c r => if r = true then do let ok ← isTrue c (zbL X scope x s₃ H₃ fp pins).env (eval c (zbL X scope x s₃ H₃ fp pins).env); pure (ForInStep.yield ok) else pure (ForInStep.yield r))
      (TP (zbL X scope x s₃ H₃ fp pins) ps σ Q) (fun _ _ => False) s := by
  rcases hc with ⟨rfl, rfl⟩ | ⟨c, rfl, hc⟩
  · simp only [zxH] at he
    cases he
    exact wpAny_tests_nil ⟨H, I, q H (.refl H)⟩
  · exact wpAny_tests_one ((hc s₃ H₃ fp pins).h ps s σ H Q I ⟨W, ρ, k, hR, he, q⟩)
theorem zfT {test : D → Option Bool} {elt : D → Option SV} : ∀ {ds out : List D}, zdQ test elt ds = some out → out.length ≤ ds.length
  | [], _, h => by simp only [zdQ] at h; cases h; exact Nat.le_refl _
  | d :: r, out, h => by
    simp only [zdQ, jo1] at h
    obtain ⟨b, e1, e2⟩ := h
    cases b with
    | true =>
      simp only [jo1, jo2] at e2
      obtain ⟨_, _, _, _, l, e3, rfl⟩ := e2
      have := zfT e3
      simp; omega
    | false => have := zfT e2; simp; omega
theorem zsp {scope : Scope} {x : Str} {s₃ : Shared} {H₃ H' : Hp} {fp : List Addr} {pins : List (Addr × Obj)} {σ : St} (S : CompSc X scope x) (I : Inv X pins σ H₃ s₃) (hf : ∀ b ∈ fp, zm8 X pins H₃ b) (hlt : ∀ b ∈ fp, b < s₃.heap.objs.size)
    (hn : ∀ b ∈ fp, H' b = Option.none) : ∀ b ∈ fp, zm8 (zbL X scope x s₃ H₃ fp pins) [] H' b := fun b hb => by
  have ok := zn4 S I hf hlt
  refine ⟨hn b hb, (ok.exf b hb).1, ok.exfs b hb, .inl hb, (ok.exf b hb).2, fun p hp => ?_⟩
  have hp : p ∈ X.pn ++ pins := by simpa [zbL] using hp
  exact (hf b hb).2.2.2.2.2 p hp
structure CSt (X : Cx) (scope : Scope) (x : Str) (s₃ : Shared) (H₃ : Hp) (fp : List Addr) (pins : List (Addr × Obj)) (σ : St) (tn : Nat → Heap → Prop) (H2 : Hp) (W : Addr → Prop) (L : Addr) (test : D → Option Bool) (elt : D → Option SV) (ds out : List D)
    (n k : Nat) (y : Option V) (H' : Hp) (ys : List V) (out1 zcO : List D) (s' : Shared) : Prop where
  inv : Inv (zbL X scope x s₃ H₃ fp pins) [] (y :: σ) H' s'
  htn : tn k s'.heap
  hfp : ∀ b ∈ fp, H' b = Option.none
  hn : n = ds.length + 1 - k
  hk : k ≤ ds.length
  same : Same H2 H'
  lst : H' L = some (.lst ys)
  reps : Reps X.K (add W L) H' out1 ys
  hrest : zdQ test elt (ds.drop k) = some zcO
  hout : out = out1 ++ zcO
theorem zi2 {iter elt : Expr} {x : Str} {px pos pos2 : Pos} {ifs : List Expr} {scope : Scope} {rng : Bool} {src : Es} {cond ce : E} {pins : List (Addr × Obj)} {s : Shared} {σ : St} {H : Hp} {W : Addr → Prop} {ρ : LW.Env} {rs : List SV} {ds out : List D} {use : Option (Value → Sem Unit)} {Qe : Value → Shared → Prop}
    (hcalm : X.calm = true) (S : CompSc X scope x) (hsrc : Src X fn (.Name x px) iter rng src)
    (hcond : zlw X fn scope x ifs cond) (helt : ∀ s₃ H₃ fp pins, IE (zbL X scope x s₃ H₃ fp pins) fn elt ce) (hfo : ∀ y, foldedSetIterable iter X.env y = pure y) (I : Inv X pins σ H s) (hR : R X.K W ρ σ H)
    (e1 : zcN fn src ρ = some rs) (e2 : za0 rng rs = some ds) (hline : ds.length ≤ line) (e3 : zdQ (fun d => evT fn cond (some (.val d) :: ρ)) (fun d => evE fn ce (some (.val d) :: ρ)) ds = some out)
    (fin : ∀ (s4 : Shared) (fl : Flow) (m : Str → Option Value) (C L : Addr) (H' : Hp), s4.heap.Ns C m → (∀ h', Heap.SameBut C s4.heap h' → Inv X pins σ H' { s4 with heap := h' }) → (X.s₀.heap.objs.size ≤ C ∧ C ≠ X.env.locals ∧ (∀ y c, X.env.cells.lookup y = some c → c ≠ C) ∧ (∀ p ∈ X.pn ++ pins, p.1 ≠ C) ∧ H' C = Option.none) → Same H H' →
      Res X.K W H H' (.obj true (.lst out)) (.ref L) → compPost (model X.prog X.w) X.A X.xe use Qe (.ref L) C (.ok fl) s4) :
    wpAny (model X.prog X.w) X.A (comprehension (.ListComp elt [⟨.Name x px, iter, ifs, 0⟩] scope pos) scope X.env pos2 (newList []) false (eval iter X.env) use) Qe X.xe s := by
  have hclos := zfS (scope := scope) (env := X.env) (S.cells I.ok)
  refine wpAny_comprehension_free (use := use) rfl hfo hclos S.kind S.names ?_
  refine thn (hsrc.h pins s σ H (fun J H2 => Same H H2 ∧ Ys X.K J W H2 ds) I ⟨W, ρ, rs, ds, hR, e1, e2, fun J H' s1 y _ => ⟨s1, y⟩⟩) fun v s1 h1 => thn h1 fun itv s2 h2 => ?_
  obtain ⟨it, fp, tn, J, H2, rfl, I2, T, st2, f2, sm, hy⟩ := h2
  refine wpAny_newObj_type (zkw S fun h₁ hns₁ hk₁ hc₁ => ?_)
  have I3 := I2.lnew (t' := s2.toks) (ys := []) (its := []) .nil (Nat.zero_le _)
  have hD : H2 s2.heap.objs.size = Option.none := I2.fresh
  generalize hL : s2.heap.objs.size = L at hD
  generalize hs3 : ({ s2 with heap := s2.heap.push { cls := .type "list", data := .seq ([] : List Value).toArray }, toks := s2.toks } : Shared) = s₃ at I3
  have hs3h : s₃.heap = s2.heap.push { cls := .type "list", data := .seq ([] : List Value).toArray } := by rw [← hs3]
  rw [hL] at I3
  generalize hH3 : upd H2 L (.lst []) = H₃ at I3
  have blt : ∀ b ∈ fp, b < s2.heap.objs.size := fun b hb => by
    obtain ⟨o, e, _⟩ := T.obj _ _ st2 b hb
    exact Heap.lt_size e
  have hlt : ∀ b ∈ fp, b < s₃.heap.objs.size := fun b hb => by rw [hs3h, Heap.size_push]; exact Nat.lt_succ_of_lt (blt b hb)
  have hf : ∀ b ∈ fp, zm8 X pins H₃ b := fun b hb => by
    refine ⟨?_, (f2 b hb).2⟩
    rw [← hH3, za3 (by rw [← hL]; exact Nat.ne_of_lt (blt b hb))]
    exact (f2 b hb).1
  have keep1 : ∀ b o, s₃.heap.get? b = some o → h₁.get? b = some o := fun b o e => by
    rw [hs3h] at e
    exact hk₁ b o e
  have ns1 : h₁.Ns s₃.heap.objs.size fun _ => Option.none := by rw [hs3h]; exact hns₁
  have Ic := zpY (tk := s2.toks) S I3 hf hlt ns1 keep1 (by rw [hs3h]; exact hc₁)
  have fpc := fun {H' : Hp} hn => zsp (H' := H') S I3 hf hlt hn
  have win : ∀ b, add W L b → W b ∨ H2 b = Option.none := fun b w => by
    rcases w with w | rfl
    · exact .inl w
    · exact .inr hD
  have hRL : ∀ {H' : Hp} {ys : List V}, Same H2 H' → H' L = some (.lst ys) → R X.K (add W L) ρ σ H' := fun {H' ys} sm' e => (hR.same sm).add sm' hD e
  have lenO : out.length ≤ ds.length := zfT e3
  have loop : ∀ s' : Shared, s' = { s₃ with heap := h₁, toks := s2.toks } → codeAny (model X.prog X.w) X.A (.compLoop (.ListComp elt [⟨.Name x px, iter, ifs, 0⟩] scope pos) 0 (.ref it) (.ref L) (zbL X scope x s₃ H₃ fp pins).env)
      (compPost (model X.prog X.w) X.A X.xe use Qe (.ref L) s₃.heap.objs.size) s' := by
    rintro s' rfl
    refine zmv (fun n s' => ∃ k y H' ys out1 zcO, CSt X scope x s₃ H₃ fp pins σ tn H2 W L (fun d => evT fn cond (some (.val d) :: ρ)) (fun d => evE fn ce (some (.val d) :: ρ)) ds out n k y H' ys out1 zcO s') ?_ (ds.length + 1)
      ⟨0, Option.none, H₃, [], [], out, Ic, T.keep _ _ _ st2 (fun b hb o e => keep1 b o (by rw [hs3h]; exact Heap.get?_push_of_some _ e)), fun b hb => (hf b hb).1, rfl, Nat.zero_le _, by rw [← hH3]; exact zaP hD _, by rw [← hH3]; exact za9, .nil, e3, rfl⟩
    rintro n s' ⟨k, y, H', ys, out1, zcO, c⟩
    obtain ⟨hstop, hgo⟩ := hy (add W L) H' c.same win k
    by_cases hk : k < ds.length
    · have hd : ds[k]? = some ds[k] := by simp [hk]
      obtain ⟨g1, g2⟩ := hgo _ hd
      have crest := c.hrest
      rw [zi0 hd] at crest
      simp only [zdQ, jo1] at crest
      obtain ⟨b, t1, t2⟩ := crest
      refine thn (T.item (zbL X scope x s₃ H₃ fp pins) rfl rfl rfl hcalm k [] s' (y :: σ) H' _ c.inv (fpc c.hfp) c.htn g1) fun r s4 ⟨u, hr, h4⟩ => ?_
      subst hr
      refine thn h4 fun _ s5 ⟨xv, H5, I5, r5, y5, st5, fr5⟩ => ?_
      obtain ⟨rfl, rv⟩ := g2 xv H5 y5
      have I5' := I5.pinned (fpc fr5) (T.obj _ _ st5)
      refine thn (zki (X := zbL X scope x s₃ H₃ fp pins) (i := 0) S.nd rfl S.locX S.fnX _ s5 (y :: σ) H5 xv u (fun σ' H' => σ' = some xv :: σ ∧ H' = H5) I5' r5 ⟨rfl, rfl⟩) fun _ s6 ⟨σ6, H6, I6, q6, q7⟩ => ?_
      subst q6 q7
      have hRc := (hRL c.same c.lst).cons rv
      refine thn (zpZ (Q := fun b' H7 => b' = b ∧ Same H6 H7) hcond I6 hRc t1 fun H7 s7 => ⟨rfl, s7⟩) fun ok s7 ⟨H7, I7, q7, m7⟩ => ?_
      subst q7
      have back : ∀ {s' : Shared} {H' : Hp}, Inv (zbL X scope x s₃ H₃ fp pins) ([] ++ ziH fp s5.heap) (some xv :: σ) H' s' → tn (k + 1) s'.heap ∧ ∀ b ∈ fp, H' b = Option.none := fun {s' H'} J => by
        refine ⟨T.keep _ _ _ st5 fun b hb o e => (J.pin (b, o) (List.mem_append_right _ (List.mem_append_right _ (zdt hb e)))).1, fun b hb => ?_⟩
        obtain ⟨o, e, d⟩ := T.obj _ _ st5 b hb
        exact (J.pin (b, o) (List.mem_append_right _ (List.mem_append_right _ (zdt hb e)))).2.1
      cases ok with
      | false =>
        rw [if_neg Bool.false_ne_true]
        have bk := back I7
        exact ⟨_, by have := c.hn; omega, k + 1, some xv, H7, ys, out1, zcO, I7.unpinned, bk.1, bk.2, rfl, hk, c.same.trans m7, m7 _ _ c.lst, c.reps.ext (.same m7), t2, c.hout⟩
      | true =>
        rw [if_pos rfl]
        simp only [jo1, jo2] at t2
        obtain ⟨r8, t3, d8, t4, rest', t5, rfl⟩ := t2
        have hR7 := hRc.same m7
        refine thn ((helt s₃ H₃ fp pins).h _ s7 _ H7 (fun v H8 => Same H7 H8 ∧ Rep X.K (add W L) H8 d8 v) I7 ⟨add W L, _, r8, hR7, t3, fun v8 H8 m8 res => ⟨m8, (res.frz hR7.wf).toD t4⟩⟩) fun u8 s8 ⟨v8, H8, I8, rl8, m8, rp8⟩ => ?_
        have lst8 := m8 _ _ (m7 _ _ c.lst)
        have lenY := c.reps.length
        have lenT := congrArg List.length c.hout
        rw [List.length_append, List.length_cons] at lenT
        have le := zfP
        refine thn (ziN (X := zbL X scope x s₃ H₃ fp pins) _ s8 _ H8 (.ref L) [v8] (.ref L) [u8] (fun _ H9 => H9 = upd H8 L (.lst (ys ++ [v8]))) I8 rfl (.cons rl8 .nil) ⟨L, ys, v8, rfl, rfl, lst8, by omega, rfl⟩) fun _ s9 ⟨_, H9, I9, _, q9⟩ => ?_
        subst q9
        have bk := back I9
        have ext : Ext (add W L) H8 (add W L) (upd H8 L (.lst (ys ++ [v8]))) := by
          refine ⟨fun b o q n => ?_, fun b zs q => ?_, fun b o u q => ?_, fun b w => .inl w⟩
          · rw [za3 (fun z => n (.inr z))]; exact q
          · rw [za3 (fun z => by rw [z, lst8] at q; cases q)]; exact q
          · rw [za3 (fun z => by rw [z, lst8] at q; cases q)]; exact q
        have smL : Same H2 (upd H8 L (.lst (ys ++ [v8]))) := fun b o q => by
          rw [za3 (fun z => by rw [z, hD] at q; cases q)]
          exact m8 _ _ (m7 _ _ (c.same _ _ q))
        exact ⟨_, by have := c.hn; omega, k + 1, some xv, _, ys ++ [v8], out1 ++ [d8], rest', I9.unpinned, bk.1, bk.2, rfl, hk, smL, za9, ((c.reps.ext (.same (m7.trans m8))).ext ext).append (.cons (rp8.ext ext) .nil), t5, by rw [c.hout]; simp⟩
    · have ek : k = ds.length := by have := c.hk; omega
      refine thn (T.done (zbL X scope x s₃ H₃ fp pins) rfl rfl rfl hcalm k [] s' (y :: σ) H' _ c.inv (fpc c.hfp) c.htn (hstop ek)) fun r s4 ⟨hr, I4⟩ => ?_
      subst hr
      obtain ⟨m, hn, _⟩ := I4.loc
      have er := c.hrest
      rw [List.drop_of_length_le (by omega), zdQ] at er
      cases er
      have eo := c.hout
      rw [List.append_nil] at eo
      refine fin s4 _ m _ L H' hn (fun h' hs => zn5 I3 hf I4 hs) ⟨I3.sz, (Nat.ne_of_lt I3.lt).symm, fun y cc hc => ?_, fun p hp => ?_, I4.free⟩ (sm.trans c.same) (by rw [eo]; exact .new (sm.free hD) c.lst (.lst c.reps))
      · obtain ⟨v, o, ho, _⟩ := I3.cell y cc hc
        exact Nat.ne_of_lt (Heap.lt_size ho)
      · exact Nat.ne_of_lt (Heap.lt_size (I3.pin p hp).1)
  have st0 : tn 0 h₁ := T.keep _ _ _ st2 (fun b hb o e => keep1 b o (by rw [hs3h]; exact Heap.get?_push_of_some _ e))
  subst hs3 hL
  exact codeAny_compStart_list (loop _ rfl) (T.self X.A 0 _ _ _ st0 (loop _ rfl))
theorem zdL {iter elt : Expr} {x : Str} {px pos : Pos} {ifs : List Expr} {scope : Scope} {rng : Bool} {src : Es} {cond ce : E} (hcalm : X.calm = true) (S : CompSc X scope x) (hsrc : Src X fn (.Name x px) iter rng src)
    (hcond : zlw X fn scope x ifs cond) (helt : ∀ s₃ H₃ fp pins, IE (zbL X scope x s₃ H₃ fp pins) fn elt ce) (hfo : ∀ y, foldedSetIterable iter X.env y = pure y := by intro _; rfl) :
    IE X fn (.ListComp elt [⟨.Name x px, iter, ifs, 0⟩] scope pos) (.comp rng src cond ce) := by
  refine .mk ?_
  rintro pins s σ H Q I ⟨W, ρ, r, hR, he, q⟩
  simp only [znH, jo1] at he
  obtain ⟨rs, e1, ds, e2, e3⟩ := he
  split at e3
  case isFalse => cases e3
  rename_i hline
  rw [jo2] at e3
  obtain ⟨out, e3, rfl⟩ := e3
  rw [eval_ListComp]
  refine zi2 (use := Option.none) hcalm S hsrc hcond helt hfo I hR e1 e2 hline e3 fun s4 fl m C L H' hn back _ sm res => ?_
  exact ⟨m, hn, fun h' hs => ⟨.ref L, H', back h' hs, rfl, q _ H' sm res⟩⟩
theorem zq9 (i : Nat) {fa : Nat → List D → Option Ans} {fuel : Nat} {iter elt : Expr} {x y : Str} {px py pos spos : Pos} {ifs : List Expr} {scope : Scope} {rng : Bool} {src : Es} {cond ce : E} (hcalm : X.calm = true) (hN : X.N.Nodup) (hi : X.N[i]? = some y) (hy : X.env.scope.names.lookup y = some .local) (S : CompSc X scope x) (hsrc : Src X (prj fa) (.Name x px) iter rng src)
    (hcond : zlw X (prj fa) scope x ifs cond) (helt : ∀ s₃ H₃ fp pins, IE (zbL X scope x s₃ H₃ fp pins) (prj fa) elt ce)
    (hsw : swapsWith (.ListComp elt [⟨.Name x px, iter, ifs, 0⟩] scope pos) (some (.Name y py)) spos.line X.env = pure true := by rfl) (hfo : ∀ y, foldedSetIterable iter X.env y = pure y := by intro _; rfl) :
    IS X (exS fa fuel (.asg i (.comp rng src cond ce))) (.Assign [.Name y py] (.ListComp elt [⟨.Name x px, iter, ifs, 0⟩] scope pos) spos) := by
  refine .mk ?_
  rintro pins s σ H D0 I ⟨W, ρ, z, hR, hz, q⟩
  simp only [zq1, jo1] at hz
  obtain ⟨r, he, hz⟩ := hz
  split at hz
  case isTrue => cases hz
  rename_i hl
  cases hz
  simp only [Bool.not_eq_true, Bool.or_eq_false_iff, Bool.not_eq_false'] at hl
  simp only [znH, jo1] at he
  obtain ⟨rs, e1, ds, e2, e3⟩ := he
  split at e3
  case isFalse => cases e3
  rename_i hline
  rw [jo2] at e3
  obtain ⟨out, e3, rfl⟩ := e3
  rw [exec_Assign_Name_used _ _ _ _ hsw]
  refine wpAny_bind (wpAny_standAt (wpAny_bind ?_))
  show wpAny _ X.A (do let _ ← comprehension (.ListComp elt [⟨.Name x px, iter, ifs, 0⟩] scope pos) scope X.env _ (newList []) false (eval iter X.env) (some (assign (.Name y py) X.env))) _ _ s
  refine wpAny_bind (wpAny_mono (zi2 (use := some (assign (.Name y py) X.env)) (Qe := fun _ s' => SP X pins D0 .next s') hcalm S hsrc hcond helt hfo I hR e1 e2 hline e3 fun s4 fl m C L H' hn back cf sm res => ?_) (fun _ s' hq => wpAny_pure (wpAny_pure hq)) fun _ _ e => e)
  have I4 : Inv X pins σ H' s4 := back s4.heap ⟨rfl, fun _ _ => rfl⟩
  refine wpAny_assign_Name (ziF I4 hN hi (.inl hy) (v := .ref L) rfl (fun s5 I5 ⟨a, hs5, ha⟩ => ?_) (.inr hy))
  have haC : a ≠ C := by
    rcases ha with rfl | ha
    · exact fun z => cf.2.1 z.symm
    · exact cf.2.2.1 _ _ ha
  have hnC : s5.heap.Ns C m := by
    obtain ⟨o, es, ep, ho, hrest⟩ := hn
    exact ⟨o, es, ep, (hs5.2 C (Ne.symm haC)).trans ho, hrest⟩
  refine ⟨m, hnC, fun h' hs => ?_⟩
  have I6 : Inv X pins (σ.set i (some (.ref L))) H' { s5 with heap := h' } := by
    refine I5.call' (s' := { s5 with heap := h' }) (ch := [C]) rfl ⟨fun b o e n hb hx => ?_, fun b o e n hb hx => ?_, fun b o e n hx => n, fun b o e hx => ?_, fun _ _ q => q, fun _ _ _ q => q, fun _ ps q => ⟨#[], by simpa using q⟩⟩ ?_ I5.bare fun b hb => ?_
    · exact (hs.2 b (by simpa using hx)).trans e
    · exact ⟨o.slots, (hs.2 b (by simpa using hx)).trans e⟩
    · exact ⟨o, (hs.2 b (by simpa using hx)).trans e⟩
    · intro b o e
      refine (I5.hok b o e).stay (fun c v hc q => (hs.2 c ?_).trans q) (fun _ q => q) fun _ _ q => q
      intro z
      rcases hc with w | w
      · rw [← w, z, cf.2.2.2.2] at e; cases e
      · rw [z, cf.2.2.2.2] at w; cases w
    · have e : b = C := by simpa using hb
      subst e
      exact ⟨.inr cf.1, cf.2.1, cf.2.2.1, cf.2.2.2.1⟩
  cases res with
  | new h e r => exact ⟨_, H', I6, q _ _ H' (ze0 hR sm h e r (zdS hl.2))⟩
end
end L2.LW
set_option maxHeartbeats 4000000
namespace L2.LW
open PySem PySem.Spec PyProof.Rows
noncomputable def tyN : Ty → String
  | .bool => "bool" | .int => "int" | .str => "str" | .list => "list" | .tuple => "tuple"
noncomputable def dTy : D → String
  | .int _ => "int" | .bl _ => "bool" | .non => "NoneType" | .str _ => "str" | .tup _ => "tuple" | .lst _ => "list" | .dct _ _ _ => "dict"
theorem zux (K : PySem.W.Frag) (d : D) (t : Ty) : PySem.W.kitOne K (.type (dTy d)) (.type (tyN t)) = some (ziP t d) := by
  cases d <;> cases t <;> rfl
section
variable {X : Cx} {fn : Nat → List D → Option SV}
theorem zp0 {pins : List (Addr × Obj)} {σ : St} {H : Hp} {s : Shared} {W : Addr → Prop} {A : Around} {E Q : Value → Shared → Prop} {d : D} {x : V} {u : Value} {t : Ty} (I : Inv X pins σ H s) (h : Sees X.K W H d x) (r : RelV x u)
    (q : ∀ tk, Q (.bool (ziP t d)) { s with toks := tk }) : wpAny (model X.prog X.w) A (call (.builtin "isinstance") [u, .type (tyN t)]) Q E s := by
  have e := zux X.K d t
  cases d with
  | int i => cases h.int; obtain ⟨tk, rfl⟩ := r; exact PySem.W.kia_one PySem.W.kitx_int I.kIn True.intro e (fun z => nomatch z) q
  | bl b => cases h.bl; cases r; exact PySem.W.kia_one PySem.W.kitx_bool I.kIn True.intro e (fun z => nomatch z) q
  | non => cases h.non; cases r; exact PySem.W.kia_one PySem.W.kitx_none I.kIn True.intro e (fun z => nomatch z) q
  | str y => cases h.str; obtain ⟨tk, rfl⟩ := r; exact PySem.W.kia_one PySem.W.kitx_str I.kIn True.intro e (fun z => nomatch z) q
  | tup l =>
    obtain ⟨a, xs, rfl, hq, _⟩ := h.tup
    cases r
    obtain ⟨its, rv, ⟨o, ho, hc, n, hd⟩, hz⟩ := I.tuple hq
    exact PySem.W.kia_one PySem.W.kitx_tuple I.kIn ⟨o, ho, hc⟩ e (fun z => nomatch z) q
  | lst l =>
    obtain ⟨a, xs, rfl, hq, _⟩ := h.lst
    cases r
    obtain ⟨its, rv, ⟨o, n, ho, hc, _, hd⟩, hz⟩ := I.list hq
    exact PySem.W.kia_one PySem.W.kitx_list I.kIn ⟨o, ho, hc⟩ e (fun z => nomatch z) q
  | dct b ks vs =>
    cases b with
    | false =>
      obtain ⟨a, ns, ys, rfl, _, hH, _⟩ := h.dK
      cases r
      obtain ⟨_, _, vs, _, ob, _, _, h1, h2, _⟩ := zmr I.hok (.inl hH)
      exact PySem.W.kia_one PySem.W.kitx_dict I.kIn ⟨ob, h1, h2.1⟩ e (fun z => nomatch z) q
    | true =>
      obtain ⟨a, ns, ys, rfl, _, hH, _⟩ := h.dT
      cases r
      obtain ⟨_, _, xs, _, ob, _, _, h1, h2, _⟩ := zms I.hok (.inl hH)
      exact PySem.W.kia_one PySem.W.kitx_dict I.kIn ⟨ob, h1, h2.1⟩ e (fun z => nomatch z) q
theorem zsq (t : Ty) : zcz X (.builtin "isinstance") (fun xs H Q => ∃ x, xs = [x, .ty (tyN t)] ∧ VR X.K (zal (.inst t)) [x] H Q) := by
  rintro pins s σ H xs us Q I rv ⟨x, rfl, W, ds, r, wf, hs, hf, q⟩
  obtain ⟨d, rfl, h1⟩ := pr1 hs
  replace hf : zua t [d] = some r := hf
  cases hf
  obtain ⟨u, w', rfl, r1, r2⟩ := zrR rv
  cases r2
  exact zp0 I h1 r1 fun tk => ⟨.bl _, H, I.tok tk, rfl, q _ H (.refl H) (.val (.bl _))⟩
theorem zlx {a : Expr} {ca : E} {t : Ty} {y : Str} {p p2 pos : Pos} (hg : Gl X "isinstance") (hm : X.mg "isinstance" = Option.none) (hg2 : Gl X y) (hm2 : X.mg y = Option.none) (hv : bootBuiltins y = some (.type (tyN t))) (ha : IE X fn a ca)
    (hn : y ≠ "__name__" := by decide) (hdb : (y == ("__debug__" : Str)) = false := by decide)
    (h1 : starEach [a, .Name y p2] X.env = (false, eval a X.env) :: starEach [.Name y p2] X.env := by rfl) (h2 : starEach [.Name y p2] X.env = (false, eval (.Name y p2) X.env) :: starEach [] X.env := by rfl)
    (hpl : (backTo pos (starEach [.Name y p2] X.env)).any (·.1) = false := by rfl) :
    IE X fn (.Call (.Name "isinstance" p) [a, .Name y p2] [] pos) (.prim (.inst t) (.cons ca .nil)) :=
  .mk <| (zhq (zsq t) hg hm PyProof.Rows.boot_isinstance (zcr ha.v (zcr (zrG hg2 hm2 hv (v := .ty (tyN t)) rfl hn hdb) zgX h2) h1) (by decide) (by decide) h1 hpl).imp fun σ H Q zz3 => by
    obtain ⟨W, ρ, r, hR, he, q⟩ := zz3
    simp only [zcs, zch, zbB, jo1, jo2] at he
    obtain ⟨rs, ⟨r1, e1, rs', e3, rfl⟩, e4⟩ := he
    cases e3
    exact ⟨W, ρ, r1, hR, e1, fun v1 H1 s1 f1 => ⟨v1, rfl, zhE hR s1 (.cons f1 .nil) e4 q⟩⟩
theorem zg4 (l : List Int) : (zmt l).Perm l := List.mergeSort_perm _ _
theorem zgH (l : List Int) : (zmt l).Pairwise (· ≤ ·) := by
  have h := List.pairwise_mergeSort (le := fun (a b : Int) => decide (a ≤ b)) (fun a b c h1 h2 => by simp at *; omega) (fun a b => by simp; omega) l
  exact h.imp fun h => by simpa using h
theorem zmw {ds : List D} {ns : List Int} {pins : List (Addr × Obj)} {s : Shared} {σ : St} {H : Hp} {xs : List V} {us : List Value} {Q : VK} (I : Inv X pins σ H s) (rv : Vals xs us)
    {W : Addr → Prop} {l : List D} (hs : Paired (Sees X.K W H) [.lst l] xs) (e1 : ints? l = some ns) (h64 : ns.length < 64) (q : ∀ v H', Same H H' → Res X.K W H H' (.obj true (.lst ((zmt ns).map .int))) v → Q v H') :
    wpAny (model X.prog X.w) X.A (call (.builtin "sorted") us) (EP X pins σ Q) X.xe s := by
  cases hs with
  | cons h1 t =>
    cases t
    obtain ⟨p, ys, rfl, hp, rp⟩ := h1.lst
    have ey := rp.ofInts e1
    subst ey
    obtain ⟨u, rfl, ru⟩ := zfI rv
    cases ru
    obtain ⟨its, rv', pl, hz⟩ := I.list hp
    have hi := zbR rv'
    have hlen := rv'.length
    rw [List.length_map] at hlen
    refine sorted_ints pl.isList hi (by omega) fun out ns' a1 a2 a3 => ?_
    have en : ns' = zmt ns := PySem.W.ksm_same (a2.trans (zg4 ns).symm) a3 (zgH ns)
    subst en
    obtain ⟨e, he⟩ := sortedAll_at s.heap its out
    have hl2 := (zg4 ns).length_eq
    have fr : H (s.heap.objs.size + 1) = Option.none := I.hok.fresh (Nat.le_succ _)
    refine ⟨.ref (s.heap.objs.size + 1), upd H (s.heap.objs.size + 1) (.lst ((zmt ns).map V.int)), I.laid (t' := s.toks) (fun _ _ => sortedAll_old) (Nat.le_succ _) ⟨?_, out.toList, e, zfM a1, ?_⟩, rfl, q _ _ (zaP fr _) (zeJ fr (.ints _))⟩
    · rw [List.length_map]; exact Nat.le_of_lt (zc9 (by omega))
    · simpa [seqObj] using he
theorem zg5 {K : PySem.W.Frag} {W : Addr → Prop} {H : Hp} : ∀ {ds : List D} {xs : List V} {bs : List Bool}, Reps K W H ds xs → bools? ds = some bs → xs = bs.map V.bl
  | _, _, bs, .nil, e => by simp [bools?] at e; subst e; rfl
  | _, _, bs, .cons h t, e => by
    cases h with
    | bl i =>
      simp only [bools?, jo2] at e
      obtain ⟨ms, e1, rfl⟩ := e
      rw [zg5 t e1]; rfl
    | _ => simp [bools?] at e
theorem zg6 : ∀ {bs : List Bool} {us : List Value}, Vals (bs.map V.bl) us → us = bs.map Value.bool
  | [], us, r => by cases r; rfl
  | b :: bs, us, r => by
    cases r with
    | cons h t => cases h; rw [zg6 t]; rfl
theorem zn6 (bs : List Bool) : ((List.range bs.length).all fun i => bs.getD i true) = bs.all id := by
  induction bs with
  | nil => rfl
  | cons b r ih =>
    rw [List.length_cons, List.range_succ_eq_map, List.all_cons, List.all_map, List.all_cons]
    simp only [Function.comp_def, List.getD_cons_succ, List.getD_cons_zero]
    rw [ih]; rfl
theorem zra (hc : X.calm = true) : zcz X (.builtin "all") (VR X.K (zal .all)) := by
  rintro pins s σ H xs us Q I rv ⟨W, ds, r, wf, hs, hf, q⟩
  replace hf : zwl ds = some r := hf
  unfold zwl at hf
  split at hf
  · rename_i l
    rw [jo1] at hf
    obtain ⟨bs, e1, hf⟩ := hf
    cases hf
    cases hs with
    | cons h1 t =>
      cases t
      obtain ⟨p, ys, rfl, hp, rp⟩ := h1.lst
      have ey := zg5 rp e1
      subst ey
      obtain ⟨u, rfl, ru⟩ := zfI rv
      cases ru
      obtain ⟨its, rv', pl, hz⟩ := I.list hp
      have ei := zg6 rv'
      subst ei
      obtain ⟨o, n, ho, hcl, hdi, hda⟩ := id pl
      have hne : p ≠ s.heap.objs.size := Nat.ne_of_lt (Heap.lt_size ho)
      refine call_all_walk (wpAny_pyIter_list pl.isList ?_)
      refine ⟨s.heap.objs.size, _, _, _, _, _, fun i => bs.getD i true, rfl, Walks.list (A := X.A.in1) (I.ok.hd hc) s.heap.objs.size p hne (bs.map Value.bool).toArray, ⟨⟨_, Heap.get?_push_size _ rfl, rfl, rfl⟩, ⟨o, Heap.get?_push_of_some _ ho, hcl, n, hda⟩⟩, ?_, fun h' tk hk => ?_⟩
      · intro i v s' Q' E' hv hQ
        have hv : (bs.map Value.bool).toArray[i]? = some v := hv
        rw [List.getElem?_toArray, List.getElem?_map, jo2] at hv
        obtain ⟨b, e2, rfl⟩ := hv
        have e3 : bs.getD i true = b := by rw [List.getD_eq_getElem?_getD, e2]; rfl
        have hQ : Q' (bs.getD i true) s' := hQ
        rw [e3] at hQ
        exact wpAny_truthy_bool hQ
      · rw [List.size_toArray, List.length_map, zn6]
        refine ⟨.bl _, H, I.kept (t' := tk) (fun b o' e => ?_), rfl, q _ H (.refl H) (.val (.bl _))⟩
        exact hk b o' (by simpa using Nat.ne_of_lt (Heap.lt_size e)) (Heap.get?_push_of_some _ e)
  · cases hf
theorem zly (xs : List V) (k : Int) (hk : 0 ≤ k) : zpw xs Option.none (some k) = xs.take k.toNat := by
  obtain ⟨n, rfl⟩ := Int.eq_ofNat_of_zero_le hk
  unfold zpw
  rw [HT.sIx_none, HT.sIx_nat, List.drop_zero, Nat.sub_zero, Int.toNat_natCast]
  rcases Nat.le_total n xs.length with h | h
  · rw [Nat.min_eq_left h]
  · rw [Nat.min_eq_right h, List.take_of_length_le (Nat.le_refl _), List.take_of_length_le h]
theorem zsr {a b : Expr} {ca cb : E} {p pos : Pos} (ha : IE X fn a ca) (hb : IE X fn b cb) : IE X fn (.Subscript a (.Slice Option.none (some b) Option.none p) pos) (.prim .cutTo (.cons ca (.cons cb .nil))) :=
  .mk <| (zht zrW ha.v zkj (zkk hb.v)).imp fun σ H Q zz3 => by
    obtain ⟨W, ρ, r, hR, he, q⟩ := zz3
    simp only [zcs, zch, zbB, jo1, jo2] at he
    obtain ⟨rs, ⟨r1, e1, rs', ⟨r2, e2, rs'', e3, rfl⟩, rfl⟩, e4⟩ := he
    cases e3
    refine ⟨W, ρ, r1, hR, e1, fun v1 H1 s1 f1 => ⟨W, ρ, r2, hR.same s1, e2, fun v2 H2 s2 f2 => ?_⟩⟩
    replace e4 : zlj [zbM r1, zbM r2] = some r := e4
    unfold zlj at e4
    split at e4
    · rename_i l k z
      have h1 := (f1.same s2).sees
      have h2 := f2.sees
      injection z with z1 z2
      injection z2 with z2 _
      rw [z1] at h1
      rw [z2] at h2
      split at e4
      · rename_i hk
        cases e4
        obtain ⟨p, xs, rfl, hp, rp⟩ := h1.lst
        cases h2.int
        refine ⟨k, rfl, p, xs, rfl, hp, fun p' hp' => ?_⟩
        rw [zly xs k hk]
        have s12 := s1.trans s2
        exact q _ _ (s12.trans (zaP hp' _)) ((zeJ hp' (rp.take _)).back s12)
      · cases e4
    · cases e4
theorem za8 {scope : Scope} {env : PySem.Env} {y : Str} (h : scope.names.lookup y = some .free) : Vis (relabel scope env) y := by
  unfold Vis relabel
  have key : ∀ (names : List (Str × NameKind)), names.lookup y = some .free →
      (names.map fun (z : Str × NameKind) => match z with | (n, k) => if (k == NameKind.free && env.scope.kind == .function && env.kindOf n == some .cell) = true then (n, NameKind.cell) else (n, k)).lookup y = some .cell ∨
      (names.map fun (z : Str × NameKind) => match z with | (n, k) => if (k == NameKind.free && env.scope.kind == .function && env.kindOf n == some .cell) = true then (n, NameKind.cell) else (n, k)).lookup y = some .free := by
    intro names
    induction names with
    | nil => intro h; cases h
    | cons z r ih =>
      obtain ⟨n, j⟩ := z
      intro h
      rw [List.lookup_cons] at h
      rw [List.map_cons, List.lookup_cons]
      by_cases hc : (j == NameKind.free && env.scope.kind == .function && env.kindOf n == some .cell) = true
      · simp only [hc, if_true]
        cases e : y == n with
        | true => exact .inl rfl
        | false => rw [e] at h; exact ih h
      · simp only [hc, Bool.false_eq_true, if_false]
        cases e : y == n with
        | true => rw [e] at h; exact .inr h
        | false => rw [e] at h; exact ih h
  exact .inr (key scope.names h)
theorem za6 {scope : Scope} {env : PySem.Env} {y : Str} (h : scope.names.lookup y = some .local) : Vis (relabel scope env) y := .inl (lookup_relabel_local h)
theorem zdg {scope : Scope} {env : PySem.Env} {y : Str} (h : scope.names.lookup y = some .globalImplicit) : (relabel scope env).names.lookup y = some .globalImplicit := by
  unfold relabel
  have key : ∀ (names : List (Str × NameKind)), names.lookup y = some .globalImplicit →
      (names.map fun (z : Str × NameKind) => match z with | (n, k) => if (k == NameKind.free && env.scope.kind == .function && env.kindOf n == some .cell) = true then (n, NameKind.cell) else (n, k)).lookup y = some .globalImplicit := by
    intro names
    induction names with
    | nil => intro h; cases h
    | cons z r ih =>
      obtain ⟨n, j⟩ := z
      intro h
      rw [List.lookup_cons] at h
      rw [List.map_cons, List.lookup_cons]
      by_cases hc : (j == NameKind.free && env.scope.kind == .function && env.kindOf n == some .cell) = true
      · simp only [hc, if_true]
        cases e : y == n with
        | true =>
          rw [e] at h
          have h : j = .globalImplicit := Option.some.inj h
          rw [h] at hc
          simp at hc
        | false => rw [e] at h; exact ih h
      · simp only [hc, Bool.false_eq_true, if_false]
        cases e : y == n with
        | true => rw [e] at h; exact h
        | false => rw [e] at h; exact ih h
  exact key scope.names h
noncomputable def zn7 (sc : Scope) (N : List Str) (scope : Scope) (x : Str) : Bool :=
  decide (scope.kind = .function) && (decide (scope.names.lookup x = some .local) || decide (scope.names.lookup x = some .cell)) && scope.names.all (fun y => !decide (y.2 = .local) || decide (scope.names.lookup y.1 = some .local)) &&
  decide (scope.names.filter (fun y => y.2 == .cell) = if scope.names.lookup x = some .cell then [(x, .cell)] else []) &&
  scope.names.all (fun y => !decide (y.2 = .free) || (decide (sc.names.lookup y.1 = some .cell) || decide (sc.names.lookup y.1 = some .free))) && N.all (fun y => !decide (scope.names.lookup y = some .local) || decide (y = x)) &&
  decide (scope.names.lookup ("" : Str) = Option.none) && decide ((x :: zq8 x N).Nodup)
theorem zc6 {scope sc : Scope} {N : List Str} {x : Str} (hs : X.env.scope = sc) (hN : X.N = N) (h : zn7 sc N scope x = true) : CompSc X scope x := by
  subst hs hN
  simp only [zn7, Bool.and_eq_true, decide_eq_true_eq, List.all_eq_true, Bool.or_eq_true, Bool.not_eq_true', decide_eq_false_iff_not] at h
  obtain ⟨⟨⟨⟨⟨⟨⟨h1, h2⟩, h3⟩, h4⟩, h5⟩, h6⟩, h7⟩, h8⟩ := h
  exact ⟨h1, h2, fun y hy e => (h3 y hy).resolve_left fun z => z e, h4, fun y hy e => (h5 y hy).resolve_left fun z => z e, fun y hy e => (h6 y hy).resolve_left fun z => z e, h7, h8⟩
end
end L2.LW
set_option maxHeartbeats 4000000
namespace L2.LW
open PySem PySem.Spec PyProof.Rows
section
variable {Pg : Program} {w : World} {K : PySem.W.Frag} {mg : Str → Option Value} {base : Heap} {f : Addr} {fd : FuncData} {ps : List Str} {P : Nat → Option Fn} {fuel i n k : Nat}
theorem zlz {io : List Nat} (h : ∀ ds, zas P fuel n i ds = Option.none) : FnOk Pg w K mg base CX0 k f fd ps (spA K (zas P fuel n) i io) := by
  have no : ∀ vs H Q E, ¬ spA K (zas P fuel n) i io vs H Q E := fun vs H Q E zz4 => by
    obtain ⟨W, ds, r, outs, _, _, e, _⟩ := zz4
    rw [h ds] at e; cases e
  exact ⟨fun vs H Q E z => absurd z (no vs H Q E), fun A outer s H args us vs Q E _ _ _ _ z => absurd z (no vs H Q E)⟩
theorem zss {io : List Nat} : FnOk Pg w K mg base CX0 k f fd ps (spA K (zas P fuel 0) i io) := zlz fun _ => rfl
theorem zba {io : List Nat} (h : P i = Option.none) : FnOk Pg w K mg base CX0 k f fd ps (spA K (zas P fuel (n + 1)) i io) := zlz fun ds => by rw [zas, h]; rfl
theorem zuy {H : Hp} {a : Addr} {ns : List Int} {E : XK} (h : za1 P fuel n i [.lst (ns.map D.int)] = some (.val (.bl true))) (hS : SqL K H a (ns.map V.int)) : spA K (zas P fuel n) i [] [.ref a] H (fun v _ => v = .bl true) E := by
  refine ⟨fun _ => False, [.lst (ns.map D.int)], .val (.bl true), [], fun _ z => z.elim, (Reps.cons (.lst ?_ (.ints ns)) .nil).get', zlp h, fun v H' _ _ r => ?_⟩
  · rcases hS with hS | hS
    · exact .inl ⟨fun z => z, hS⟩
    · exact .inr hS
  · cases r with
    | val r => cases r; rfl
end
end L2.LW
set_option maxHeartbeats 4000000
namespace L2.LW
open PySem PySem.Spec PyProof.Rows
noncomputable def zuz (tk tv : TE) : TE := fun σ H Q => ∀ p, H p = Option.none → tk σ (upd H p (.dT [])) fun x H1 => tv σ H1 fun y H2 => H2 p = some (.dT []) ∧ ∃ b ks, x = .ref b ∧ H2 b = some (.tup (ks.map kV)) ∧ Q (.ref p) (upd H2 p (.dT [(ks, y)]))
theorem zp1 {X : Cx} {pos : Pos} {k v : Expr} {tk tv : TE} (hu : X.A.units + 64 < cLine) (hk : PE X k tk) (hv : PE X v tv) : PE X (.Dict [some k] [v] pos) (zuz tk tv) := by
  intro pins s σ H Q I q
  have hn := I.hok.fresh (Nat.le_refl s.heap.objs.size)
  have I1 := I.laid (a := s.heap.objs.size) (o := .dT []) (h' := s.heap.push { cls := .type "dict", data := .dict #[] }) (t' := s.toks) (fun _ _ q => Heap.get?_push_of_some _ q) (Nat.le_refl _) (zlf s.heap I.big)
  refine wpAny_Dict_any rfl rfl (by simp) (by simp) (pairTrees_cons_walk (thn (hk pins _ σ _ _ I1 (q _ hn)) fun u s1 ⟨x, H1, I2, rx, q1⟩ => thn (hv pins s1 σ H1 _ I2 q1) fun w2 s2 ⟨y, H2, I3, ry, e, b, ks, ex, eb, q2⟩ => pairTrees_nil_walk ?_))
  subst ex
  cases rx
  unfold storeAll
  rw [List.forIn_cons]
  obtain ⟨z, hd, xs, rel, dd⟩ := znt I3.hok e
  cases rel
  refine wpAny_bind (wpAny_bind (wpAny_dictSet_heap (hsz := by simp) (knd := tupleKind (zay X.prog X.w)) (show X.A.units < cLine by omega) (zg0 I3.hok eb) dd fun h' dd' hs => wpAny_pure ?_))
  refine wpAny_pure ⟨.ref s.heap.objs.size, _, ?_, rfl, q2⟩
  obtain ⟨q, es, ep, hq, h2, h3, h4, _, h5⟩ := dd'
  refine zhw I3 (by rw [e]; exact True.intro) hs ⟨q, hq⟩ ⟨by simp [sizeLine_eq], hd, _, ((KT.put (H := H2) (kvs := []) (xs := []) .nil ks eb ry)).keeps fun c ys ec => ?_, q, es, ep, hq, h2, h3, h4, h5⟩
  rw [za3 (zrC ec e (fun z => nomatch z))]
  exact ec
section
variable {X : Cx} {fn : Nat → List D → Option SV} {fa : Nat → List D → Option Ans} {fuel : Nat} {a b c e : Expr} {ca cb cc ce : E} {es : List Expr} {cs : Es} {pos p : Pos} {x : Str} {st : Stmt} {sts : List Stmt} {s : S} {ss s1 s2 : Ss}
theorem zrb (t : Bool) : IE X fn (.Dict [] [] pos) (.dnew t) := by
  cases t with
  | false =>
    refine .mk (zlg.imp fun σ H Q ⟨W, ρ, r, hR, he, q⟩ => ?_)
    simp only [znG] at he; cases he
    exact fun p hp => q _ _ (zaP hp _) (.new hp za9 (.dK (ns := []) (ys := []) rfl .nil))
  | true =>
    refine .mk (zlh.imp fun σ H Q ⟨W, ρ, r, hR, he, q⟩ => ?_)
    simp only [znG] at he; cases he
    exact fun p hp => q _ _ (zaP hp _) (.new hp za9 (.dT (ns := []) (ys := []) rfl .nil))
theorem zp2 {H H1 : Hp} {p : Addr} {o o' : HO} (hp : H p = Option.none) (s : Same (upd H p o) H1) : Same H (upd H1 p o') := fun b u q => by
  rw [za3 (zbu q hp)]
  exact s b u (by rw [za3 (zbu q hp)]; exact q)
theorem zuA (hu : X.A.units + 64 < cLine) (ha : IE X fn a ca) (hb : IE X fn b cb) : IE X fn (.Dict [some a] [b] pos) (.done true ca cb) :=
  .mk <| (zp1 hu ha.v hb.v).imp fun σ H Q zz3 => by
    obtain ⟨W, ρ, r, hR, he, q⟩ := zz3
    simp only [zr8, jo1] at he
    obtain ⟨x, e1, y, e2, da, e3, db, e4, e5⟩ := he
    split at e5
    · rename_i hk
      cases e5
      intro p hp
      have s0 := zaP hp (.dT [])
      have hR0 := hR.add s0 hp za9
      refine ⟨_, ρ, x, hR0, e1, fun v1 H1 s1 f1 => ⟨_, ρ, y, hR0.same s1, e2, fun v2 H2 s2 f2 => ⟨s2 _ _ (s1 _ _ za9), ?_⟩⟩⟩
      have r1 := (f1.same s2).toD e3
      have r2 := f2.toD e4
      cases da with
      | tup l =>
        obtain ⟨ms, hms⟩ : ∃ ms, ints? l = some ms := by simp only [zbS, Option.isSome_iff_exists] at hk; exact hk
        cases r1 with
        | tup h1 rp =>
          have z1 := rp.ofInts hms
          have z2 := zdU hms
          subst z1 z2
          refine ⟨_, ms.map Sum.inl, rfl, by rw [zeK]; exact h1, q _ _ (zp2 hp (s1.trans s2)) (.new hp za9 (.dT (ns := [ms]) (ys := [v2]) rfl (.cons ?_ .nil)))⟩
          have e2p := s2 _ _ (s1 _ _ (za9 (H := H) (a := p) (o := .dT [])))
          refine r2.ext ⟨fun b o q n => ?_, fun b ys q => ?_, fun b o u q => ?_, fun b w => .inl w⟩
          · rw [za3 (fun z => n (.inr z))]; exact q
          · rw [za3 (fun z => by rw [z, e2p] at q; cases q)]; exact q
          · rw [za3 (fun z => by rw [z, e2p] at q; cases q)]; exact q
      | _ => simp [zbS] at hk
    · cases e5
theorem zn8 (i : Int) (v : V) : ∀ {ns : List Int} {ys : List V}, ns.length = ys.length → (ziT ns ys).map (fun kv => if kv.1 = Sum.inl i then (kv.1, v) else kv) = ziT ns (List.zipWith (fun n y => if n = i then v else y) ns ys)
  | [], [], _ => rfl
  | n :: ns, y :: ys, h => by
    have ih := zn8 i v (ns := ns) (ys := ys) (by simpa using h)
    show (if (Sum.inl n : Key) = Sum.inl i then ((Sum.inl n : Key), v) else (Sum.inl n, y)) :: (ziT ns ys).map _ = (Sum.inl n, if n = i then v else y) :: ziT ns _
    rw [ih]
    by_cases e : n = i <;> simp [e]
theorem zn9 (i : List Int) (v : V) : ∀ {ns : List (List Int)} {ys : List V}, ns.length = ys.length → (zd8 ns ys).map (fun kv => if kv.1 = i.map Sum.inl then (kv.1, v) else kv) = zd8 ns (List.zipWith (fun n y => if n = i then v else y) ns ys)
  | [], [], _ => rfl
  | n :: ns, y :: ys, h => by
    have ih := zn9 i v (ns := ns) (ys := ys) (by simpa using h)
    show (if (n.map Sum.inl : List Key) = i.map Sum.inl then ((n.map Sum.inl : List Key), v) else (n.map Sum.inl, y)) :: (zd8 ns ys).map _ = (n.map Sum.inl, if n = i then v else y) :: zd8 ns _
    rw [ih]
    by_cases e : n = i
    · simp [e]
    · have : ¬ ((n.map Sum.inl : List Key) = i.map Sum.inl) := fun z => e (zlk z)
      simp [e, this]
theorem zi3 {K : PySem.W.Frag} {W : Addr → Prop} {H : Hp} {d : D} {v : V} (rv : Rep K W H d v) (i : Int) : ∀ {ns : List Int} {vs : List D} {ys : List V}, Reps K W H vs ys → Reps K W H (List.zipWith (fun k' v' => if eqD k' (.int i) then d else v') (ns.map D.int) vs) (List.zipWith (fun n y => if n = i then v else y) ns ys)
  | [], _, _, _ => by simp; exact .nil
  | n :: ns, _, _, .nil => by simp; exact .nil
  | n :: ns, _, _, .cons h t => by
    have ih := zi3 rv i (ns := ns) t
    simp only [List.map_cons, List.zipWith_cons_cons]
    refine .cons ?_ ih
    by_cases e : n = i
    · simp [e, eqD]; exact rv
    · simp [e, eqD]; exact h
theorem zi4 {K : PySem.W.Frag} {W : Addr → Prop} {H : Hp} {d : D} {v : V} (rv : Rep K W H d v) (i : List Int) : ∀ {ns : List (List Int)} {vs : List D} {ys : List V}, Reps K W H vs ys → Reps K W H (List.zipWith (fun k' v' => if eqD k' (kT i) then d else v') (ns.map kT) vs) (List.zipWith (fun n y => if n = i then v else y) ns ys)
  | [], _, _, _ => by simp; exact .nil
  | n :: ns, _, _, .nil => by simp; exact .nil
  | n :: ns, _, _, .cons h t => by
    have ih := zi4 rv i (ns := ns) t
    simp only [List.map_cons, List.zipWith_cons_cons]
    refine .cons ?_ ih
    have : eqD (kT n) (kT i) = decide (n = i) := by simp [kT, eqD, zd9]
    rw [this]
    by_cases e : n = i
    · simp [e]; exact rv
    · simp [e]; exact h
theorem zuB {K : PySem.W.Frag} {W : Addr → Prop} {H : Hp} {ns : List Int} {ys : List V} {vs : List D} {d : D} {v : V} (h : ns.length = ys.length) (r : Reps K W H vs ys) (i : Int) (rv : Rep K W H d v) :
    ORep K W H (zhx false (ns.map D.int) vs (.int i) d) (.dK (zhv (ziT ns ys) (.inl i) v)) := by
  unfold zhv zhx
  rw [zfx, zkn h]
  split
  · rw [zn8 i v h]
    exact .dK (by simp [h]) (zi3 rv i r)
  · have e : ziT ns ys ++ [(Sum.inl i, v)] = ziT (ns ++ [i]) (ys ++ [v]) := by
      unfold ziT
      rw [List.map_append, List.zip_append (by simpa using h)]
      rfl
    rw [e]
    have := ORep.dK (K := K) (W := W) (H := H) (ns := ns ++ [i]) (ys := ys ++ [v]) (by simp [h]) (r.append (.cons rv .nil))
    rw [List.map_append] at this
    exact this
theorem zrc {K : PySem.W.Frag} {W : Addr → Prop} {H : Hp} {ns : List (List Int)} {ys : List V} {vs : List D} {d : D} {v : V} (h : ns.length = ys.length) (r : Reps K W H vs ys) (i : List Int) (rv : Rep K W H d v) :
    ORep K W H (zhx true (ns.map kT) vs (kT i) d) (.dT (zhv (zd8 ns ys) (i.map Sum.inl) v)) := by
  unfold zhv zhx
  rw [zfx, zko h]
  split
  · rw [zn9 i v h]
    exact .dT (by simp [h]) (zi4 rv i r)
  · have e : zd8 ns ys ++ [(i.map Sum.inl, v)] = zd8 (ns ++ [i]) (ys ++ [v]) := by
      unfold zd8
      rw [List.map_append, List.zip_append (by simpa using h)]
      rfl
    rw [e]
    have := ORep.dT (K := K) (W := W) (H := H) (ns := ns ++ [i]) (ys := ys ++ [v]) (by simp [h]) (r.append (.cons rv .nil))
    rw [List.map_append] at this
    exact this
theorem zp3 {ns : List Int} {ys : List V} (h : ns.length = ys.length) : (ziT ns ys).length = ns.length := by simp [ziT, h]
theorem zhN {ns : List (List Int)} {ys : List V} (h : ns.length = ys.length) : (zd8 ns ys).length = ns.length := by simp [zd8, h]
theorem zlA (i : Nat) {pos' : Pos} (hu : X.A.units + 64 < cLine) (hN : X.N[i]? = some x) (hv : Vis X.env.scope x) (ha : IE X (prj fa) a ca) (hb : IE X (prj fa) b cb) (hd : (x == ("__debug__" : Str)) = false) (hcd : (x == ("__classdict__" : Str)) = false)
    (hs : swapsWith b (some (.Subscript (.Name x p) a pos')) pos.line X.env = pure false := by rfl) : IS X (exS fa fuel (.dset i ca cb)) (.Assign [.Subscript (.Name x p) a pos'] b pos) :=
  .mk <| (zrY (by omega) (zd3 hN hv hd hcd) ha.v hb.v hs).imp fun D0 σ H zz3 => by
    obtain ⟨W, ρ, y, hR, hy, q⟩ := zz3
    simp only [znJ] at hy
    split at hy
    · rename_i x h
      split at hy
      · rename_i t ks vs hc
        simp only [jo1] at hy
        obtain ⟨r, e1, d, e2, r', e3, d', e4, e5⟩ := hy
        split at e5
        · rename_i hk
          cases e5
          rw [Bool.and_eq_true, decide_eq_true_iff] at hk
          refine ⟨W, ρ, r, hR, e1, fun v H1 s1 f1 => ?_⟩
          have hR1 := hR.same s1
          obtain ⟨a, o, h1, h2, h3, h4⟩ := hR1.own i _ _ h hc
          refine ⟨_, h1, W, ρ, r', hR1, e3, fun v2 H2 s2 f2 => ?_⟩
          have rv := (f1.same s2).toD e2
          have rk := f2.toD e4
          have le := zfP
          cases h4 with
          | dK l rp =>
            rename_i ns ys
            cases d' with
            | int n =>
              cases rk
              refine ⟨a, _, rfl, DPut.k (k := .inl n) (s2 _ _ h3) (by rw [zp3 l]; simp at hk; omega), q W σ _ (zfz hR h hc h1 (s1.trans s2) (s2 _ _ h3) ⟨fun _ z => (nomatch z), fun _ _ z => (nomatch z)⟩ (zuB l (rp.ext (.same s2)) n rv))⟩
            | _ => simp [zbS] at hk
          | dT l rp =>
            rename_i ns ys
            cases d' with
            | tup kl =>
              obtain ⟨ms, hms⟩ : ∃ ms, ints? kl = some ms := by have := hk.1; simp only [zbS, Option.isSome_iff_exists] at this; exact this
              cases rk with
              | tup hb rpb =>
              have z1 := rpb.ofInts hms
              have z2 := zdU hms
              subst z1 z2
              refine ⟨a, _, rfl, DPut.t (k := ms.map Sum.inl) (s2 _ _ h3) (by rw [hb, zeK]) (by rw [zhN l]; simp at hk; omega), q W σ _ (zfz hR h hc h1 (s1.trans s2) (s2 _ _ h3) ⟨fun _ z => (nomatch z), fun _ _ z => (nomatch z)⟩ (zrc l (rp.ext (.same s2)) ms rv))⟩
            | _ => simp [zbS] at hk
        · cases e5
      · cases hy
    · cases hy
end
end L2.LW
set_option maxHeartbeats 4000000
namespace L2.LW
open PySem PySem.Spec PyProof.Rows
inductive ArgOk (K : PySem.W.Frag) (ρ : LW.Env) (σ : St) (H H' : Hp) : AV → V → Prop where
  | e {d : D} {v : V} (h : ∀ W, Rep K W H' d v) : ArgOk K ρ σ H H' (.e d) v
  | l {ds : List D} {a : Addr} {xs : List V} (e : SqL K H' a xs ∧ Rd H' a (.lst xs) ∨ zxJ K a xs) (r : ∀ W, Reps K W H' ds xs) : ArgOk K ρ σ H H' (.l ds) (.ref a)
  | s {i : Nat} {x : SV} {d : D} {a : Addr} (h : ρ[i]? = some (some x)) (c : x.cell = some d) (k : zgE d = true) (e : σ[i]? = some (some (.ref a))) : ArgOk K ρ σ H H' (.s i d) (.ref a)
  | n {t : Bool} {a : Addr} {o : HO} (h : H a = Option.none) (e : H' a = some o) (r : ∀ W, ORep K W H' (.dct t [] []) o) : ArgOk K ρ σ H H' (.n t) (.ref a)
noncomputable def tMA (K : PySem.W.Frag) (fn : Nat → List D → Option SV) (ma : MA) : TA := fun σ H Q => ∃ W ρ xs, R K W ρ σ H ∧ zgx fn ma ρ = some xs ∧ ∀ vs H', Same H H' → Paired (ArgOk K ρ σ H H') xs vs → Q vs H'
structure IMA (X : Cx) (fn : Nat → List D → Option SV) (es : List Expr) (ma : MA) : Prop where
  h : PA X es (tMA X.K fn ma)
noncomputable def tM (K : PySem.W.Frag) (fa : Nat → List D → Option Ans) (m : M) : TE := fun σ H Q => ∃ W ρ r ρ', R K W ρ σ H ∧ evM fa m ρ = some (r, ρ') ∧ ∀ v H', SPost K W ρ σ H W ρ' σ H' → Res K W H H' r v → Q v H'
structure IM (X : Cx) (fa : Nat → List D → Option Ans) (e : Expr) (m : M) : Prop where
  h : PE X e (tM X.K fa m)
theorem ArgOk.back {K : PySem.W.Frag} {ρ : LW.Env} {σ : St} {H H' H'' : Hp} {x : AV} {v : V} (h : ArgOk K ρ σ H' H'' x v) (s : Same H H') : ArgOk K ρ σ H H'' x v := by
  cases h with
  | e h => exact .e h
  | l e r => exact .l e r
  | s h c k e => exact .s h c k e
  | n h e r => exact .n (s.free h) e r
theorem zcQ {K : PySem.W.Frag} {ρ : LW.Env} {σ : St} {H H' H'' : Hp} : ∀ {xs : List AV} {vs : List V}, Paired (ArgOk K ρ σ H' H'') xs vs → Same H H' → Paired (ArgOk K ρ σ H H'') xs vs
  | _, _, .nil, _ => .nil
  | _, _, .cons h t, s => .cons (h.back s) (zcQ t s)
section
variable {X : Cx} {fn : Nat → List D → Option SV} {fa : Nat → List D → Option Ans} {fuel : Nat} {a b c e : Expr} {ca cb cc ce : E} {es : List Expr} {cs : Es} {ma : MA} {m : M} {pos p : Pos} {x : Str} {st : Stmt} {sts sts' : List Stmt} {s : S} {ss s1 s2 : Ss}
theorem zrd : IMA X fn [] .nil := .mk <| zgX.imp fun σ H Q zz3 => by
  obtain ⟨W, ρ, rs, hR, he, q⟩ := zz3
  simp only [zq0] at he; cases he; exact q _ H (.refl H) .nil
theorem ztm (he : IE X fn e ce) (h : IMA X fn es ma) (hs : starEach (e :: es) X.env = (false, eval e X.env) :: starEach es X.env := by rfl) : IMA X fn (e :: es) (.e ce ma) :=
  .mk <| (zcr he.v h.h hs).imp fun σ H Q zz3 => by
    obtain ⟨W, ρ, rs, hR, hx, q⟩ := zz3
    simp only [zyE, jo1, jo2] at hx
    obtain ⟨r, e1, av, e2, xs, e3, rfl⟩ := hx
    refine ⟨W, ρ, r, hR, e1, fun v H1 s1 f => ⟨W, ρ, xs, hR.same s1, e3, fun vs H2 s2 fs => q _ H2 (s1.trans s2) (.cons ?_ (zcQ fs s1))⟩⟩
    unfold zqX at e2
    split at e2
    · rename_i ds
      split at e2
      · rename_i hp
        cases e2
        cases f with
        | val f =>
          cases f with
          | lst h r =>
            refine .l ?_ fun W' => (r.plain hp).ext (.same s2)
            rcases h with ⟨_, h⟩ | h
            · refine .inl ⟨s2.seq (.inl h), ?_⟩
              rcases h with h | ⟨o, h⟩
              · exact .inl (s2 _ _ h)
              · exact .inr ⟨o, s2 _ _ h⟩
            · exact .inr h
      · cases e2
    · rename_i d _
      split at e2
      · rename_i hp
        cases e2
        cases f with
        | val f => exact .e fun W' => (f.plain hp).ext (.same s2)
      · cases e2
    · rename_i o ds
      split at e2
      · rename_i hp
        cases e2
        cases f with
        | lis h e r =>
          cases r with
          | lst r => exact .l (.inl ⟨.of (s2 _ _ e), .inl (s2 _ _ e)⟩) fun W' => (r.plain hp).ext (.same s2)
        | see h e r =>
          cases r with
          | lst r => exact .l (.inl ⟨.of (s2 _ _ e), .inl (s2 _ _ e)⟩) fun W' => (r.plain hp).ext (.same s2)
      · cases e2
    · cases e2
theorem zxN (i : Nat) (hN : X.N[i]? = some x) (hv : Vis X.env.scope x) (h : IMA X fn es ma) (hd : (x == ("__debug__" : Str)) = false) (hcd : (x == ("__classdict__" : Str)) = false) : IMA X fn (.Name x p :: es) (.s i ma) :=
  .mk <| (zcr (zd3 hN hv hd hcd) h.h rfl).imp fun σ H Q zz3 => by
    obtain ⟨W, ρ, rs, hR, hx, q⟩ := zz3
    simp only [zyF, jo1] at hx
    obtain ⟨d, e1, e2⟩ := hx
    split at e2
    · rename_i hk
      rw [jo2] at e2
      obtain ⟨xs, e3, rfl⟩ := e2
      unfold zda at e1
      split at e1
      · rename_i y h1
        obtain ⟨a, o, h2, _⟩ := hR.own i y d h1 e1
        exact ⟨_, h2, W, ρ, xs, hR, e3, fun vs H2 s2 fs => q _ H2 s2 (.cons (.s h1 e1 hk h2) fs)⟩
      · cases e1
    · cases e2
theorem zzu (t : Bool) (h : IMA X fn es ma) : IMA X fn (.Dict [] [] p :: es) (.n t ma) := by
  refine .mk ?_
  cases t with
  | false =>
    refine (zcr zlg h.h rfl).imp fun σ H Q ⟨W, ρ, rs, hR, hx, q⟩ => ?_
    simp only [zxI, jo2] at hx
    obtain ⟨xs, e3, rfl⟩ := hx
    intro p hp
    have s1 := zaP hp (.dK [])
    exact ⟨W, ρ, xs, hR.same s1, e3, fun vs H2 s2 fs => q _ H2 (s1.trans s2) (.cons (.n hp (s2 _ _ za9) fun W => .dK (ns := []) (ys := []) rfl .nil) (zcQ fs s1))⟩
  | true =>
    refine (zcr zlh h.h rfl).imp fun σ H Q ⟨W, ρ, rs, hR, hx, q⟩ => ?_
    simp only [zxI, jo2] at hx
    obtain ⟨xs, e3, rfl⟩ := hx
    intro p hp
    have s1 := zaP hp (.dT [])
    exact ⟨W, ρ, xs, hR.same s1, e3, fun vs H2 s2 fs => q _ H2 (s1.trans s2) (.cons (.n hp (s2 _ _ za9) fun W => .dT (ns := []) (ys := []) rfl .nil) (zcQ fs s1))⟩
end
noncomputable def zst : MA → Nat → List Nat
  | .nil, _ => []
  | .e _ r, k => zst r (k + 1)
  | .s _ r, k => k :: zst r (k + 1)
  | .n _ r, k => k :: zst r (k + 1)
noncomputable def zeM : MA → List Nat
  | .nil => []
  | .e _ r => zeM r
  | .s i r => i :: zeM r
  | .n _ r => zeM r
noncomputable def zg7 : MA → Nat
  | .nil => 0
  | .e _ r => zg7 r
  | .s _ r => zg7 r
  | .n _ r => zg7 r + 1
noncomputable def ioX : List AV → Nat → List Nat
  | [], _ => []
  | .e _ :: r, k => ioX r (k + 1)
  | .l _ :: r, k => ioX r (k + 1)
  | .s _ _ :: r, k => k :: ioX r (k + 1)
  | .n _ :: r, k => k :: ioX r (k + 1)
noncomputable def slX : List AV → List Nat
  | [] => []
  | .s i _ :: r => i :: slX r
  | _ :: r => slX r
noncomputable def nwX : List AV → Nat
  | [] => 0
  | .n _ :: r => nwX r + 1
  | _ :: r => nwX r
theorem zcR {fn : Nat → List D → Option SV} {ρ : LW.Env} : ∀ {ma : MA} {xs : List AV}, zgx fn ma ρ = some xs → (∀ k, ioX xs k = zst ma k) ∧ slX xs = zeM ma ∧ nwX xs = zg7 ma
  | .nil, xs, h => by simp only [zq0] at h; cases h; exact ⟨fun _ => rfl, rfl, rfl⟩
  | .e c r, xs, h => by
    simp only [zyE, jo1, jo2] at h
    obtain ⟨x, _, av, e2, ys, e3, rfl⟩ := h
    obtain ⟨h1, h2, h3⟩ := zcR e3
    unfold zqX at e2
    split at e2
    · split at e2
      · cases e2; exact ⟨fun k => h1 (k + 1), h2, h3⟩
      · cases e2
    · split at e2
      · cases e2; exact ⟨fun k => h1 (k + 1), h2, h3⟩
      · cases e2
    · split at e2
      · cases e2; exact ⟨fun k => h1 (k + 1), h2, h3⟩
      · cases e2
    · cases e2
  | .s i r, xs, h => by
    simp only [zyF, jo1] at h
    obtain ⟨d, _, e2⟩ := h
    split at e2
    · rw [jo2] at e2
      obtain ⟨ys, e3, rfl⟩ := e2
      obtain ⟨h1, h2, h3⟩ := zcR e3
      exact ⟨fun k => by simp only [ioX, zst, h1], by simp only [slX, zeM, h2], h3⟩
    · cases e2
  | .n t r, xs, h => by
    simp only [zxI, jo2] at h
    obtain ⟨ys, e3, rfl⟩ := h
    obtain ⟨h1, h2, h3⟩ := zcR e3
    exact ⟨fun k => by simp only [ioX, zst, h1], h2, by simp only [nwX, zg7, h3]⟩
noncomputable def zmx : AV → Bool
  | .s _ _ => true
  | .n _ => true
  | _ => false
theorem zfU : ∀ {xs : List AV} {j k : Nat}, k ∈ ioX xs j ↔ j ≤ k ∧ ∃ x, xs[k - j]? = some x ∧ zmx x = true
  | [], j, k => by simp [ioX]
  | x :: r, j, k => by
    have ih := zfU (xs := r) (j := j + 1) (k := k)
    have key : k ∈ ioX r (j + 1) ↔ j ≤ k ∧ k ≠ j ∧ ∃ y, (x :: r)[k - j]? = some y ∧ zmx y = true := by
      rw [ih]
      constructor
      · rintro ⟨h1, y, h2, h3⟩
        refine ⟨by omega, by omega, y, ?_, h3⟩
        have e : k - j = (k - (j + 1)) + 1 := by omega
        rw [e, List.getElem?_cons_succ]; exact h2
      · rintro ⟨h1, h0, y, h2, h3⟩
        have e : k - j = (k - (j + 1)) + 1 := by omega
        rw [e, List.getElem?_cons_succ] at h2
        exact ⟨by omega, y, h2, h3⟩
    have no : zmx x = false → (k ∈ ioX r (j + 1) ↔ j ≤ k ∧ ∃ y, (x :: r)[k - j]? = some y ∧ zmx y = true) := fun hx => by
      rw [key]
      constructor
      · rintro ⟨h1, _, h2⟩; exact ⟨h1, h2⟩
      · rintro ⟨h1, y, h2, h3⟩
        refine ⟨h1, fun e => ?_, y, h2, h3⟩
        subst e
        rw [Nat.sub_self] at h2
        cases h2
        rw [hx] at h3; cases h3
    have yes : zmx x = true → (k = j ∨ k ∈ ioX r (j + 1) ↔ j ≤ k ∧ ∃ y, (x :: r)[k - j]? = some y ∧ zmx y = true) := fun hx => by
      rw [key]
      constructor
      · rintro (rfl | ⟨h1, _, h2⟩)
        · exact ⟨Nat.le_refl _, x, by rw [Nat.sub_self]; rfl, hx⟩
        · exact ⟨h1, h2⟩
      · rintro ⟨h1, h2⟩
        by_cases e : k = j
        · exact .inl e
        · exact .inr ⟨h1, e, h2⟩
    cases x with
    | e d => exact no rfl
    | l d => exact no rfl
    | s i d => rw [ioX, List.mem_cons]; exact yes rfl
    | n t => rw [ioX, List.mem_cons]; exact yes rfl
theorem zdw {α β : Type} {F : α → β → Prop} : ∀ {xs : List α} {vs : List β} {k : Nat} {x : α}, Paired F xs vs → xs[k]? = some x → ∃ v, vs[k]? = some v ∧ F x v
  | _, _, _, _, .nil, e => by simp at e
  | _, _, 0, _, .cons h _, e => by simp at e; subst e; exact ⟨_, rfl, h⟩
  | _, _, k + 1, x, .cons _ t, e => by
    obtain ⟨v, h1, h2⟩ := zdw (k := k) (x := x) t (by simpa using e)
    exact ⟨v, by simpa using h1, h2⟩
theorem zhO : ∀ {xs : List AV} {i : Nat}, i ∈ slX xs ↔ ∃ (k : Nat) (d : D), xs[k]? = some (AV.s i d)
  | [], i => by simp [slX]
  | x :: r, i => by
    have ih := zhO (xs := r) (i := i)
    have up : (∃ (k : Nat) (d : D), r[k]? = some (AV.s i d)) → ∃ (k : Nat) (d : D), (x :: r)[k]? = some (AV.s i d) := fun ⟨k, d, h⟩ => ⟨k + 1, d, by simpa using h⟩
    have dn : (∀ d, x ≠ .s i d) → (∃ (k : Nat) (d : D), (x :: r)[k]? = some (AV.s i d)) → ∃ (k : Nat) (d : D), r[k]? = some (AV.s i d) := fun hx zz1 => by
      obtain ⟨k, d, h⟩ := zz1
      cases k with
      | zero => cases h; exact absurd rfl (hx d)
      | succ k => exact ⟨k, d, by simpa using h⟩
    cases x with
    | s j d0 =>
      rw [slX, List.mem_cons, ih]
      constructor
      · rintro (rfl | h)
        · exact ⟨0, d0, rfl⟩
        · exact up h
      · intro h
        by_cases e : i = j
        · exact .inl e
        · exact .inr (dn (fun d z => by cases z; exact e rfl) h)
    | e d => show i ∈ slX r ↔ _; rw [ih]; exact ⟨up, dn fun _ z => nomatch z⟩
    | l d => show i ∈ slX r ↔ _; rw [ih]; exact ⟨up, dn fun _ z => nomatch z⟩
    | n d => show i ∈ slX r ↔ _; rw [ih]; exact ⟨up, dn fun _ z => nomatch z⟩
theorem zoa : ∀ {xs : List AV} {j k i : Nat} {d e : D}, (slX xs).Nodup → xs[j]? = some (.s i d) → xs[k]? = some (.s i e) → j = k
  | [], _, _, _, _, _, _, h, _ => by simp at h
  | x :: r, j, k, i, d, e, hn, h1, h2 => by
    have hr : (slX r).Nodup := by
      cases x with
      | s i d => rw [slX, List.nodup_cons] at hn; exact hn.2
      | _ => exact hn
    cases j with
    | zero =>
      cases k with
      | zero => rfl
      | succ k =>
        cases h1
        rw [slX, List.nodup_cons] at hn
        exact absurd (zhO.mpr ⟨k, e, by simpa using h2⟩) hn.1
    | succ j =>
      cases k with
      | zero =>
        cases h2
        rw [slX, List.nodup_cons] at hn
        exact absurd (zhO.mpr ⟨j, d, by simpa using h1⟩) hn.1
      | succ k => rw [zoa (j := j) (k := k) hr (by simpa using h1) (by simpa using h2)]
theorem zob : ∀ {xs : List AV} {j k : Nat} {t u : Bool}, nwX xs ≤ 1 → xs[j]? = some (.n t) → xs[k]? = some (.n u) → j = k
  | [], _, _, _, _, _, h, _ => by simp at h
  | x :: r, j, k, t, u, hn, h1, h2 => by
    have pos : ∀ {r : List AV} {k : Nat} {u : Bool}, r[k]? = some (AV.n u) → 0 < nwX r := by
      intro r
      induction r with
      | nil => intro k u h; simp at h
      | cons y r ih =>
        intro k u h
        cases k with
        | zero => cases h; simp [nwX]
        | succ k =>
          have := ih (k := k) (u := u) (by simpa using h)
          cases y <;> simp [nwX] <;> omega
    cases j with
    | zero =>
      cases k with
      | zero => rfl
      | succ k =>
        cases h1
        have := pos (k := k) (u := u) (r := r) (by simpa using h2)
        simp [nwX] at hn; omega
    | succ j =>
      cases k with
      | zero =>
        cases h2
        have := pos (k := j) (u := t) (r := r) (by simpa using h1)
        simp [nwX] at hn; omega
      | succ k =>
        have hr : nwX r ≤ 1 := by cases x <;> simp [nwX] at hn <;> omega
        rw [zob (j := j) (k := k) hr (by simpa using h1) (by simpa using h2)]
inductive OutsX (K : PySem.W.Frag) (W : Addr → Prop) (H : Hp) : List AV → List V → List D → Prop where
  | nil : OutsX K W H [] [] []
  | e {d : D} {v : V} {xs : List AV} {vs : List V} {os : List D} (t : OutsX K W H xs vs os) : OutsX K W H (.e d :: xs) (v :: vs) os
  | l {d : List D} {v : V} {xs : List AV} {vs : List V} {os : List D} (t : OutsX K W H xs vs os) : OutsX K W H (.l d :: xs) (v :: vs) os
  | s {i : Nat} {d : D} {a : Addr} {o : HO} {d' : D} {xs : List AV} {vs : List V} {os : List D} (e : H a = some o) (r : ORep K W H d' o) (t : OutsX K W H xs vs os) : OutsX K W H (.s i d :: xs) (.ref a :: vs) (d' :: os)
  | n {b : Bool} {v : V} {d' : D} {xs : List AV} {vs : List V} {os : List D} (t : OutsX K W H xs vs os) : OutsX K W H (.n b :: xs) (v :: vs) (d' :: os)
theorem zre {K : PySem.W.Frag} {W : Addr → Prop} {H : Hp} {F : AV → V → Prop} : ∀ {xs : List AV} {vs pre : List V} {os : List D}, Paired F xs vs → zwm K W H (ioX xs pre.length) (pre ++ vs) os → OutsX K W H xs vs os
  | _, _, pre, os, .nil, h => by
    simp only [ioX] at h
    cases h; exact .nil
  | _, _, pre, os, .cons (a := x) (b := v) (l₁ := xs) (l₂ := vs) _ t, h => by
    have step : ∀ {os : List D}, zwm K W H (ioX xs (pre.length + 1)) (pre ++ v :: vs) os → OutsX K W H xs vs os := fun {os} h =>
      zre (pre := pre ++ [v]) t (by simpa using h)
    cases x with
    | e d => exact .e (step h)
    | l d => exact .l (step h)
    | s i d =>
      simp only [ioX] at h
      cases h with
      | cons h r =>
        obtain ⟨a, o, e1, e2, e3⟩ := h
        simp at e1
        subst e1
        exact .s e2 e3 (step r)
    | n b =>
      simp only [ioX] at h
      cases h with
      | cons h r => exact .n (step r)
structure Upd (K : PySem.W.Frag) (W : Addr → Prop) (ρ : LW.Env) (σ : St) (H : Hp) (ρ' : LW.Env) (sl : List Nat) : Prop where
  len : ρ'.length = ρ.length
  other : ∀ i, i ∉ sl → ρ'[i]? = ρ[i]?
  at_ : ∀ i ∈ sl, ∃ x d a o, ρ[i]? = some (some x) ∧ x.cell.isSome = true ∧ ρ'[i]? = some (some (x.put d)) ∧ σ[i]? = some (some (.ref a)) ∧ H a = some o ∧ ORep K W H d o
theorem zec {K : PySem.W.Frag} {W : Addr → Prop} {ρ0 : LW.Env} {σ : St} {H0 H1 H' : Hp} : ∀ {xs : List AV} {vs : List V} {os : List D} {ρ ρ' : LW.Env}, Paired (ArgOk K ρ0 σ H0 H1) xs vs → (slX xs).Nodup → (∀ i ∈ slX xs, ρ[i]? = ρ0[i]?) → OutsX K W H' xs vs os → zgF ρ xs os = some ρ' → Upd K W ρ σ H' ρ' (slX xs)
  | _, _, _, ρ, ρ', .nil, _, _, h, e => by
    cases h
    simp only [zgF] at e
    cases e
    exact ⟨rfl, fun _ _ => rfl, fun i h => (by cases h)⟩
  | _, _, _, ρ, ρ', .cons (a := x) (b := v) (l₁ := xs) (l₂ := vs) hx t, hn, hs, h, e => by
    cases h with
    | e h => simp only [zgF] at e; show Upd K W ρ σ H' ρ' (slX xs); exact zec (xs := xs) t hn hs h e
    | l h => simp only [zgF] at e; show Upd K W ρ σ H' ρ' (slX xs); exact zec (xs := xs) t hn hs h e
    | n h => simp only [zgF] at e; show Upd K W ρ σ H' ρ' (slX xs); exact zec (xs := xs) t hn hs h e
    | s e1 r h =>
      rename_i i d a o d' os
      simp only [zgF] at e
      rw [slX, List.nodup_cons] at hn
      cases hx with
      | s h1 c k e2 =>
        rename_i y
        have h1' : ρ[i]? = some (some y) := by rw [hs i (by simp [slX])]; exact h1
        have ep : ztl ρ i d' = ρ.set i (some (y.put d')) := by unfold ztl; rw [h1']
        rw [ep] at e
        have hl : i < ρ.length := (List.getElem?_eq_some_iff.mp h1').1
        obtain ⟨l, ot, at_⟩ := zec t hn.2 (fun j hj => by
          rw [zaH (fun z => hn.1 (by rw [z]; exact hj))]
          exact hs j (by rw [slX]; exact List.mem_cons_of_mem _ hj)) h e
        refine ⟨by simpa using l, fun j hj => ?_, fun j hj => ?_⟩
        · rw [slX, List.mem_cons] at hj
          rw [ot j (fun z => hj (.inr z)), zaH (fun z => hj (.inl z.symm))]
        · rw [slX, List.mem_cons] at hj
          by_cases ej : j = i
          · subst ej
            refine ⟨y, d', a, o, h1', by rw [c]; rfl, ?_, e2, e1, r⟩
            rw [ot j hn.1, zde hl]
          · obtain ⟨x, d, a, o, z1, z2⟩ := at_ j (hj.resolve_left ej)
            rw [zaH (fun z => ej z.symm)] at z1
            exact ⟨x, d, a, o, z1, z2⟩
theorem zp4 {K : PySem.W.Frag} {W : Addr → Prop} {ρ ρ' : LW.Env} {σ : St} {H H' : Hp} {sl : List Nat} (r : R K W ρ σ H) (u : Upd K W ρ σ H' ρ' sl) (keep : ∀ a o, H a = some o → (∀ i ∈ sl, σ[i]? ≠ some (some (.ref a))) → H' a = some o) : SPost K W ρ σ H W ρ' σ H' := by
  have cellOf : ∀ {x : SV}, x.cell.isSome = true → ∃ d, x.cell = some d := fun {x} h => Option.isSome_iff_exists.mp h
  have ownSl : ∀ {i : Nat} {a : Addr}, i ∈ sl → σ[i]? = some (some (.ref a)) → Own ρ σ a := fun {i a} hi e => by
    obtain ⟨x, d, a', o, h1, h2, _⟩ := u.at_ i hi
    obtain ⟨d0, hc⟩ := cellOf h2
    exact ⟨i, x, d0, h1, hc, e⟩
  have kp : ∀ a o, H a = some o → ¬ Own ρ σ a → H' a = some o := fun a o h n => keep a o h fun i hi e => n (ownSl hi e)
  have ext : Ext W H W H' := by
    refine ⟨fun a o h n => kp a o h fun z => n (r.ownW z).1, fun a xs h => kp a _ h fun z => ?_, fun a o w h => kp a _ h fun z => ?_, fun a w => .inl w⟩
    · obtain ⟨_, o, d, e, q⟩ := r.ownW z
      rw [h] at e; cases e; exact q.kind.1 xs rfl
    · obtain ⟨_, o, d, e, q⟩ := r.ownW z
      rw [h] at e; cases e; exact q.kind.2 _ _ rfl
  have old : ∀ {k : Nat} {y : SV} {es : D}, ρ'[k]? = some (some y) → y.cell = some es → ∃ y' es', ρ[k]? = some (some y') ∧ y'.cell = some es' := fun {k y es} q c => by
    by_cases hk : k ∈ sl
    · obtain ⟨x, d, a', o, h1, h2, _⟩ := u.at_ k hk
      obtain ⟨d0, hc⟩ := cellOf h2
      exact ⟨x, d0, h1, hc⟩
    · rw [u.other k hk] at q; exact ⟨y, es, q, c⟩
  refine ⟨⟨fun k d hk => ?_, fun k d hk => ?_, fun k y es hk hc => ?_, fun k l x y e1 e2 b h1 h2 c1 c2 h3 h4 => ?_, fun b w => ?_, by rw [u.len]; exact r.len⟩, kp, fun b w => .inl w, fun b w n => ⟨w, fun ⟨k, y, es, z1, c, z2⟩ => ?_⟩, fun j => ⟨?_, fun _ => rfl⟩⟩
  · by_cases hs : k ∈ sl
    · obtain ⟨x, d', a', o, h1, h2, h3, _⟩ := u.at_ k hs
      rw [h3] at hk
      exact absurd (Option.some.inj (Option.some.inj hk)) (znY _ _ _)
    · rw [u.other k hs] at hk
      obtain ⟨v, h1, h2⟩ := r.val k d hk
      exact ⟨v, h1, h2.ext ext⟩
  · by_cases hs : k ∈ sl
    · obtain ⟨x, d', a', o, h1, h2, h3, _⟩ := u.at_ k hs
      rw [h3] at hk
      exact absurd (Option.some.inj (Option.some.inj hk)) (znZ _ _ _)
    · rw [u.other k hs] at hk
      exact r.nol k d hk
  · by_cases hs : k ∈ sl
    · obtain ⟨x, d', a', o, h1, h2, h3, h4, h5, h6⟩ := u.at_ k hs
      rw [h3] at hk
      cases hk
      rw [zlr] at hc
      cases hc
      obtain ⟨d0, hc0⟩ := cellOf h2
      exact ⟨a', o, h4, (r.ownW ⟨k, x, d0, h1, hc0, h4⟩).1, h5, h6⟩
    · rw [u.other k hs] at hk
      obtain ⟨b, ys, h1, h2, h3, h4⟩ := r.own k y es hk hc
      refine ⟨b, ys, h1, h2, keep b ys h3 fun i hi e => hs ?_, h4.ext ext⟩
      obtain ⟨x, d', a', o, g1, g2, _⟩ := u.at_ i hi
      obtain ⟨d0, hc0⟩ := cellOf g2
      rw [r.inj k i y x es d0 b hk g1 hc hc0 h1 e]
      exact hi
  · obtain ⟨_, _, z1, w1⟩ := old h1 c1
    obtain ⟨_, _, z2, w2⟩ := old h2 c2
    exact r.inj k l _ _ _ _ b z1 z2 w1 w2 h3 h4
  · cases e : H b with
    | none => exact absurd e (r.wf b w)
    | some o =>
      by_cases hz : ∃ i ∈ sl, σ[i]? = some (some (.ref b))
      · obtain ⟨i, hi, e'⟩ := hz
        obtain ⟨x, d', a', o, g1, g2, g3, g4, g5, _⟩ := u.at_ i hi
        rw [e'] at g4; cases g4
        rw [g5]; exact fun z => nomatch z
      · rw [keep b o e fun i hi e' => hz ⟨i, hi, e'⟩]; exact fun z => nomatch z
  · obtain ⟨_, _, z, w'⟩ := old z1 c
    exact n ⟨k, _, _, z, w', z2⟩
  · by_cases hs : j ∈ sl
    · obtain ⟨x, d', a', o, h1, h2, h3, _⟩ := u.at_ j hs
      unfold ziC
      rw [h1, h3]
      constructor
      · rintro ⟨d2, z⟩
        obtain ⟨d3, w⟩ := zls.mp ⟨d2, Option.some.inj (Option.some.inj z)⟩
        exact ⟨d3, by rw [w]⟩
      · rintro ⟨d2, z⟩
        obtain ⟨d3, w⟩ := zls (d := d') |>.mpr ⟨d2, Option.some.inj (Option.some.inj z)⟩
        exact ⟨d3, by rw [w]⟩
    · unfold ziC; rw [u.other j hs]
section
variable {X : Cx} {fn : Nat → List D → Option SV} {fa : Nat → List D → Option Ans} {fuel : Nat} {a b c e : Expr} {ca cb cc ce : E} {es : List Expr} {cs : Es} {ma : MA} {m : M} {pos p : Pos} {x : Str} {st : Stmt} {sts sts' : List Stmt} {s : S} {ss s1 s2 : Ss}
theorem zoc {K : PySem.W.Frag} {W : Addr → Prop} {H : Hp} {d : D} {o : HO} (h : ORep K W H d o) (k : zgE d = true) : ∀ xs, o ≠ .lst xs := by
  cases h with
  | lst r => cases k
  | dK l r => exact fun _ z => nomatch z
  | dT l r => exact fun _ z => nomatch z
theorem zod {d : D} (k : zgE d = true) : zc3 d = true := by
  cases d with
  | dct t ks vs => exact k
  | _ => cases k
theorem OutsX.plain {K : PySem.W.Frag} {W W' : Addr → Prop} {H : Hp} {xs : List AV} {vs : List V} {os : List D} (h : OutsX K W H xs vs os) (p : os.all zc3 = true) : OutsX K W' H xs vs os := by
  induction h with
  | nil => exact .nil
  | e _ ih => exact .e (ih p)
  | l _ ih => exact .l (ih p)
  | s e r _ ih =>
    simp only [List.all_cons, Bool.and_eq_true] at p
    exact .s e (r.plain p.1) (ih p.2)
  | n _ ih =>
    simp only [List.all_cons, Bool.and_eq_true] at p
    exact .n (ih p.2)
theorem Res.fine {K : PySem.W.Frag} {W W' : Addr → Prop} {H H' : Hp} {r : SV} {v : V} (h : Res K W' H H' r v) (p : r.fine = true) : Res K W H H' r v := by
  cases h with
  | val h => exact .val (h.plain p)
  | new h e r => exact .new h e (r.plain p)
  | see h e r => cases p
theorem zrf {k : Nat} {f : Addr} {fd : FuncData} {ps : List Str} {i : Nat} {io : List Nat} (F : FnOk X.prog X.w X.K X.mg X.base CX0 k f fd ps (spA X.K fa i io)) (hio : io = zst ma 0) (hnd : (zeM ma).Nodup) (hnw : zg7 ma ≤ 1)
    (hr : Room k X.A) (hg : Gl X x) (hm : X.mg x = some (.ref f)) (hk : PySem.W.keepIn X.K (.ref f) = true)
    (hb : Binds X.K fd ps []) (ha : IMA X (prj fa) (e :: es) ma) (hdb : (x == ("__debug__" : Str)) = false := by decide) (he : starEach (e :: es) X.env = (false, eval e X.env) :: starEach es X.env := by rfl)
    (hpl : (backTo pos (starEach es X.env)).any (·.1) = false := by rfl) : IM X fa (.Call (.Name x p) (e :: es) [] pos) (.call i ma) :=
  .mk <| (znm F hr hg hm hk hb .nil zt4 ha.h hdb he hpl).imp fun σ H Q zz3 => by
    obtain ⟨W, ρ, r, ρ', hR, h, q⟩ := zz3
    simp only [zsa, jo1] at h
    obtain ⟨xs, e1, an, e2, e3⟩ := h
    obtain ⟨r', outs, rfl⟩ : ∃ r' outs, an = Ans.ok r' outs := by
      cases an with
      | ok r o => exact ⟨r, o, rfl⟩
      | ex c => cases e3
    simp only at e3
    split at e3
    case isFalse => cases e3
    rename_i hp
    rw [Bool.and_eq_true] at hp
    rw [jo2] at e3
    obtain ⟨ρ2, e3, e4⟩ := e3
    cases e4
    refine ⟨W, ρ, xs, hR, e1, fun vs H1 s1 f => ?_⟩
    show spA X.K fa i io (vs ++ []) H1 Q E0
    rw [List.append_nil]
    obtain ⟨t1, t2, t3⟩ := zcR e1
    have hio' : io = ioX xs 0 := by rw [hio, t1]
    subst hio'
    rw [← t2] at hnd
    rw [← t3] at hnw
    have at_ : ∀ {k : Nat} {a : Addr}, k ∈ ioX xs 0 → vs[k]? = some (.ref a) → (∃ i d y, xs[k]? = some (.s i d) ∧ ρ[i]? = some (some y) ∧ y.cell = some d ∧ zgE d = true ∧ σ[i]? = some (some (.ref a))) ∨ (∃ t, xs[k]? = some (.n t) ∧ H a = Option.none ∧ ∃ o, H1 a = some o ∧ ∀ W, ORep X.K W H1 (.dct t [] []) o) := fun {k a} hk hv => by
      obtain ⟨_, x, hx, hi⟩ := zfU.mp hk
      rw [Nat.sub_zero] at hx
      obtain ⟨v, h1, h2⟩ := zdw f hx
      rw [hv] at h1
      cases h1
      cases h2 with
      | e _ => cases hi
      | l _ _ => cases hi
      | s g1 g2 g3 g4 => exact .inl ⟨_, _, _, hx, g1, g2, g3, g4⟩
      | n g1 g2 g3 => exact .inr ⟨_, hx, g1, _, g2, g3⟩
    have hR1 := hR.same s1
    have ioD : ∀ a, ioV (ioX xs 0) vs a → ∃ o, H1 a = some o ∧ ∀ zs, o ≠ .lst zs := fun a zz1 => by
      obtain ⟨k, hk, hv⟩ := zz1
      rcases at_ hk hv with ⟨i, d, y, _, g1, g2, g3, g4⟩ | ⟨t, _, _, o, g2, g3⟩
      · obtain ⟨b, o, z1, z2, z3, z4⟩ := hR1.own i y d g1 g2
        rw [g4] at z1; cases z1
        exact ⟨o, z3, zoc z4 g3⟩
      · exact ⟨o, g2, zoc (g3 W) rfl⟩
    have ar : ARep X.K (ioV (ioX xs 0) vs) H1 (ioX xs 0) (xs.map zr6) vs := by
      refine ⟨by rw [List.length_map]; exact Paired.length f, fun k d hd hk => ?_, fun k d hd hk => ?_, fun j k a hj hk h1 h2 => ?_⟩
      · rw [List.getElem?_map, jo2] at hd
        obtain ⟨x, hx, rfl⟩ := hd
        obtain ⟨v, h1, h2⟩ := zdw f hx
        refine ⟨v, h1, ?_⟩
        cases h2 with
        | e g => exact g _
        | l g1 g2 =>
          refine .lst ?_ (g2 _)
          rcases g1 with ⟨_, g1⟩ | g1
          · refine .inl ⟨fun z => ?_, g1⟩
            obtain ⟨o, z1, z2⟩ := ioD _ z
            rcases g1 with g1 | ⟨ob, g1⟩
            · rw [g1] at z1; cases z1; exact z2 _ rfl
            · rw [g1] at z1; cases z1
              obtain ⟨k', hk', hv'⟩ := z
              rcases at_ hk' hv' with ⟨i, d, y, _, c1, c2, c3, c4⟩ | ⟨t, _, _, o, c2, c3⟩
              · obtain ⟨b, o, y1, y2, y3, y4⟩ := hR1.own i y d c1 c2
                rw [c4] at y1; cases y1
                rw [g1] at y3; cases y3
                exact y4.kind.2 _ _ rfl
              · rw [g1] at c2; cases c2
                exact (c3 W).kind.2 _ _ rfl
          · exact .inr g1
        | s _ _ _ _ => exact absurd (zfU.mpr ⟨Nat.zero_le _, _, by rw [Nat.sub_zero]; exact hx, rfl⟩) hk
        | n _ _ _ => exact absurd (zfU.mpr ⟨Nat.zero_le _, _, by rw [Nat.sub_zero]; exact hx, rfl⟩) hk
      · rw [List.getElem?_map, jo2] at hd
        obtain ⟨x, hx, rfl⟩ := hd
        obtain ⟨v, h1, h2⟩ := zdw f hx
        have hio := zfU.mp hk
        obtain ⟨_, x', hx', hi'⟩ := hio
        rw [Nat.sub_zero, hx] at hx'
        cases hx'
        cases h2 with
        | e _ => cases hi'
        | l _ _ => cases hi'
        | s g1 g2 g3 g4 =>
          obtain ⟨b, o, z1, z2, z3, z4⟩ := hR1.own _ _ _ g1 g2
          rw [g4] at z1; cases z1
          exact ⟨_, o, h1, ⟨k, hk, h1⟩, z3, z4.plain (zod g3)⟩
        | n g1 g2 g3 => exact ⟨_, _, h1, ⟨k, hk, h1⟩, g2, g3 _⟩
      · rcases at_ hj h1 with ⟨i, d, y, w0, c1, c2, c3, c4⟩ | ⟨t, w0, c1, _⟩
        · rcases at_ hk h2 with ⟨i', d', y', w0', c1', c2', c3', c4'⟩ | ⟨t', w0', c1', _⟩
          · have := hR.inj i i' y y' d d' a c1 c1' c2 c2' c4 c4'
            subst this
            exact zoa hnd w0 w0'
          · exact absurd c1' (hR.wf _ (hR.ownW ⟨i, y, d, c1, c2, c4⟩).1)
        · rcases at_ hk h2 with ⟨i', d', y', w0', c1', c2', c3', c4'⟩ | ⟨t', w0', c1', _⟩
          · exact absurd c1 (hR.wf _ (hR.ownW ⟨i', y', d', c1', c2', c4'⟩).1)
          · exact zob hnw w0 w0'
    refine ⟨_, _, r, outs, fun a ha => ?_, ar, e2, fun v H' kp ho res => ?_⟩
    · obtain ⟨o, z, _⟩ := ioD a ha
      rw [z]; exact fun z => nomatch z
    · refine q v H' (zp4 hR (zec f hnd (fun _ _ => rfl) ((zre (pre := []) f ho).plain hp.2) e3) fun a o h n => kp a o (s1 _ _ h) fun ⟨k, hk, hv⟩ => ?_) ((res.fine hp.1).back s1)
      rcases at_ hk hv with ⟨i, d, y, w0, c1, c2, c3, c4⟩ | ⟨t, w0, c1, _⟩
      · exact n i (zhO.mpr ⟨k, d, w0⟩) c4
      · rw [h] at c1; cases c1
theorem zsu (he : IM X fa e m) (hs : swapsWith e Option.none pos.line X.env = pure false := by rfl) : IS X (exS fa fuel (.exprM m)) (.Expr e pos) :=
  .mk <| (zhp he.h hs).imp fun D σ H zz3 => by
    obtain ⟨W, ρ, x, hR, hx, q⟩ := zz3
    simp only [zpT, jo2] at hx
    obtain ⟨⟨r, ρ'⟩, e1, rfl⟩ := hx
    exact ⟨W, ρ, r, ρ', hR, e1, fun v H1 p1 _ => q W σ H1 p1⟩
theorem t_M (hE : IM X fa e m) (he : ∀ whole, isTrue e X.env whole = (do let v ← whole; standAt e.pos; holding [v] (truthy v))) : PT X e fun σ H Q => ∃ W ρ r ρ' k, R X.K W ρ σ H ∧ evM fa m ρ = some (r, ρ') ∧ zb0 r = some k ∧ ∀ H', SPost X.K W ρ σ H W ρ' σ H' → Q k H' :=
  (zld hE.h he).imp fun σ H Q ⟨W, ρ, r, ρ', k, hR, e1, e2, q⟩ => ⟨W, ρ, r, ρ', hR, e1, fun v H1 p1 f => ⟨k, znW (f.frz hR.wf) e2, q H1 p1⟩⟩
theorem zxO (hc : IT X (prj fa) c cc) (hm : IM X fa b m) (hb : ∀ whole, isTrue b X.env whole = (do let v ← whole; standAt b.pos; holding [v] (truthy v))) (h1 : ISs X (zaS fa fuel s1) sts) (h2 : ISs X (zaS fa fuel s2) sts') :
    IS X (exS fa fuel (.ifO cc m s1 s2)) (.If (.BoolOp .Or [c, b] p) sts sts' pos) :=
  .mk <| (ztI (PW.pt (ztE hc.h (zqP (t_M hm hb)))) h1.h h2.h).imp fun D σ H zz3 => by
    obtain ⟨W, ρ, y, hR, hy, q⟩ := zz3
    simp only [zul, jo1] at hy
    obtain ⟨k, e1, e2⟩ := hy
    refine ⟨W, ρ, k, hR, e1, fun H1 w1 => ?_⟩
    have p1 := SPost.same hR w1
    cases k with
    | true =>
      rw [if_pos rfl] at e2
      exact zwg (zwg ⟨W, ρ, y, p1.r, e2, fun W2 σ2 H2 p2 => FlOk.back p1 (q W2 σ2 H2 (p1.trans p2 hR))⟩)
    | false =>
      rw [if_neg Bool.false_ne_true] at e2
      rw [jo1] at e2
      obtain ⟨⟨r, ρ'⟩, e3, e4⟩ := e2
      rw [jo1] at e4
      obtain ⟨k, e5, e6⟩ := e4
      refine zxu ⟨W, ρ, r, ρ', k, p1.r, e3, e5, fun H2 p2 => ?_⟩
      have p02 := p1.trans p2 hR
      cases k with
      | true => rw [if_pos rfl] at e6; exact zwg ⟨W, ρ', y, p02.r, e6, fun W3 σ3 H3 p3 => FlOk.back p02 (q W3 σ3 H3 (p02.trans p3 hR))⟩
      | false => rw [if_neg Bool.false_ne_true] at e6; exact zxu ⟨W, ρ', y, p02.r, e6, fun W3 σ3 H3 p3 => FlOk.back p02 (q W3 σ3 H3 (p02.trans p3 hR))⟩
end
end L2.LW
set_option maxHeartbeats 4000000
namespace L2.LW
open PySem PySem.Spec PyProof.Rows
noncomputable def swB (sc scope : Scope) (y : Str) (l1 l2 : Nat) : Bool := (if sc.kind.isAnnotationScope then ScopeKind.function else sc.kind) == .function && sc.names.lookup y == some .local && l1 == l2 && !(scope.names.any fun (n, k) => n == y && (k == .local || k == .cell))
theorem zoe {env : PySem.Env} {sc scope : Scope} {elt : Expr} {gens : List Comprehension} {y : Str} {py pos : Pos} {l : Nat} {b : Bool} (hs : env.scope = sc) (h : swB sc scope y py.line pos.line = b) :
    swapsWith (.ListComp elt gens scope pos) (some (.Name y py)) l env = pure b := by
  subst hs; subst h; rfl
theorem zof {K : PySem.W.Frag} {W : Addr → Prop} {ρ : LW.Env} {σ : St} {H : Hp} (r : R K W ρ σ H) (j : Nat) : ∃ W', SPost K W ρ σ H W' (zqY ρ j) σ H := by
  unfold zqY
  split
  · rename_i d h
    obtain ⟨a, o, h1, _⟩ := r.own j _ d h rfl
    exact ⟨_, (zdV r h h1).1⟩
  · exact ⟨W, .same r (.refl H)⟩
theorem zlB {K : PySem.W.Frag} {σ : St} {H : Hp} : ∀ (js : List Nat) {W : Addr → Prop} {ρ : LW.Env}, R K W ρ σ H → ∃ W', SPost K W ρ σ H W' (js.foldl zqY ρ) σ H
  | [], W, ρ, r => ⟨W, .same r (.refl H)⟩
  | j :: js, W, ρ, r => by
    obtain ⟨W1, p1⟩ := zof r j
    obtain ⟨W2, p2⟩ := zlB js p1.r
    exact ⟨W2, p1.trans p2 r⟩
section
variable {X : Cx} {fn : Nat → List D → Option SV} {fa : Nat → List D → Option Ans} {fuel : Nat} {st : Stmt} {s : S}
theorem zuC (js : List Nat) (h : IS X (exS fa fuel s) st) : IS X (exS fa fuel (.frz js s)) st :=
  .mk <| h.h.imp fun D σ H zz3 => by
    obtain ⟨W, ρ, x, hR, hx, q⟩ := zz3
    simp only [zuo] at hx
    obtain ⟨W1, p1⟩ := zlB js hR
    exact ⟨W1, _, x, p1.r, hx, fun W2 σ2 H2 p2 => FlOk.back p1 (q W2 σ2 H2 (p1.trans p2 hR))⟩
theorem ze1 : ∀ (r : List Int) (n : Int), (∀ x ∈ n :: r, x ≤ r.foldl max n) ∧ r.foldl max n ∈ n :: r
  | [], n => by simp
  | x :: r, n => by
    obtain ⟨h1, h2⟩ := ze1 r (max n x)
    rw [List.foldl_cons]
    refine ⟨fun y hy => ?_, ?_⟩
    · have h0 := h1 (max n x) List.mem_cons_self
      rcases List.mem_cons.mp hy with rfl | hy
      · omega
      · rcases List.mem_cons.mp hy with rfl | hy
        · omega
        · exact h1 y (List.mem_cons_of_mem _ hy)
    · rcases List.mem_cons.mp h2 with e | e
      · rw [e]
        rcases Int.le_total n x with q | q
        · rw [Int.max_eq_right q]; simp
        · rw [Int.max_eq_left q]; simp
      · exact List.mem_cons_of_mem _ (List.mem_cons_of_mem _ e)
theorem zkx {its : List Value} {ns : List Int} (hi : IntsAre its ns) : ∃ ps : List (Int × Tok), its = ps.map (fun p => Value.int p.1 p.2) ∧ ns = ps.map (·.1) := by
  induction hi with
  | nil => exact ⟨[], rfl, rfl⟩
  | cons n t h ih =>
    obtain ⟨ps, e1, e2⟩ := ih
    exact ⟨(n, t) :: ps, by rw [e1]; rfl, by rw [e2]; rfl⟩
theorem zfV {its : List Value} {ns : List Int} (hi : IntsAre its ns) : ∃ xs : Array (Int × Tok), its.toArray = intItems xs ∧ xs.size = ns.length ∧ ∀ i, (h : i < ns.length) → numAt xs i = ns[i] := by
  obtain ⟨ps, rfl, rfl⟩ := zkx hi
  refine ⟨ps.toArray, by simp [intItems], by simp, fun i h => ?_⟩
  have h' : i < ps.length := by simpa using h
  simp [numAt, h']
theorem zog (hc : X.calm = true) : zcz X (.builtin "max") (VR X.K (zal .maxL)) := by
  rintro pins s σ H xs us Q I rv ⟨W, ds, r, wf, hs, hf, q⟩
  replace hf : zpM ds = some r := hf
  unfold zpM at hf
  split at hf
  · rename_i l
    rw [jo1] at hf
    obtain ⟨ns, e1, hf⟩ := hf
    cases ns with
    | nil => cases hf
    | cons n ns =>
      cases hf
      cases hs with
      | cons h1 t =>
        cases t
        obtain ⟨p, ys, rfl, hp, rp⟩ := h1.lst
        have ey := rp.ofInts e1
        subst ey
        obtain ⟨u, rfl, ru⟩ := zfI rv
        cases ru
        obtain ⟨its, rv', pl, hz⟩ := I.list hp
        obtain ⟨xs, x1, x2, x3⟩ := zfV (zbR rv')
        have hpl := pl.isList
        rw [x1] at hpl
        refine max_intList (I.ok.hd hc) hpl (by rw [x2]; simp) fun v h' tk hv hk => ?_
        obtain ⟨t, rfl⟩ := intItems_at hv
        obtain ⟨g1, g2⟩ := argBest_gt (numAt xs) (xs.size - 1)
        have hlen : xs.size - 1 = ns.length := by rw [x2]; simp
        rw [hlen] at g1 g2 ⊢
        generalize argBest (fun i j => decide (numAt xs i > numAt xs j)) ns.length = b at g1 g2 ⊢
        have eb : numAt xs b = ns.foldl max n := by
          obtain ⟨m1, m2⟩ := ze1 ns n
          have hb : b < (n :: ns).length := by simp; omega
          obtain ⟨j, hj, ej⟩ := List.getElem_of_mem m2
          have q1 := m1 _ (List.getElem_mem hb)
          have q2 := g2 j (by simp at hj; omega)
          rw [x3 j hj, ej] at q2
          rw [x3 b hb] at q2 ⊢
          omega
        rw [eb]
        exact ⟨.int _, H, I.kept (t' := tk) hk, ⟨_, rfl⟩, q _ H (.refl H) (.val (.int _))⟩
  · cases hf
end
end L2.LW
set_option maxHeartbeats 4000000
namespace L2.LW
open PySem PySem.W PyProof.Rows
section
variable {n : Nat} {r : Nat → Int} {cmp : Nat → Nat → (Bool → Shared → Prop) → Shared → Prop} {I : Shared → Prop}
noncomputable def kk (r : Nat → Int) (p : Array Nat) (i : Nat) : Int := r (p.getD i 0)
structure Pm (n : Nat) (r : Nat → Int) (p : Array Nat) : Prop where
  perm : p.Perm (List.range n).toArray
  size : p.size = n
  lt : ∀ i, i < n → p.getD i 0 < n
  inj : ∀ i j, i < n → j < n → i ≠ j → kk r p i ≠ kk r p j
theorem Pm.of {p : Array Nat} (hr : ∀ i j, i < n → j < n → i ≠ j → r i ≠ r j) (h : p.Perm (List.range n).toArray) : Pm n r p := by
  have hs : p.size = n := by have := h.size_eq; simpa using this
  have hl : p.toList.Perm (List.range n) := Array.perm_iff_toList_perm.mp h
  have hlt : ∀ i, i < n → p.getD i 0 < n := fun i hi => by
    have hi' : i < p.size := by omega
    have : p[i] ∈ p.toList := by simp
    have := hl.mem_iff.mp this
    rw [List.mem_range] at this
    simpa [Array.getD, hi'] using this
  have hnd : p.toList.Nodup := hl.nodup_iff.mpr List.nodup_range
  refine ⟨h, hs, hlt, fun i j hi hj ne => hr _ _ (hlt i hi) (hlt j hj) fun e => ne ?_⟩
  have hi' : i < p.size := by omega
  have hj' : j < p.size := by omega
  simp only [Array.getD, hi', hj', dif_pos] at e
  have e' : p.toList[i]'(by simpa using hi') = p.toList[j]'(by simpa using hj') := by simpa using e
  exact (List.getElem_inj hnd).mp e'
noncomputable def Up (r : Nat → Int) (p : Array Nat) (k : Nat) : Prop := ∀ i j, i < j → j < k → kk r p i < kk r p j
noncomputable def Dn (r : Nat → Int) (p : Array Nat) (k : Nat) : Prop := ∀ i j, i < j → j < k → kk r p j < kk r p i
theorem Up.one {p : Array Nat} {k : Nat} (h : k ≤ 1) : Up r p k := fun i j h1 h2 => by omega
theorem Dn.one {p : Array Nat} {k : Nat} (h : k ≤ 1) : Dn r p k := fun i j h1 h2 => by omega
theorem Up.next {p : Array Nat} {k : Nat} (h : Up r p k) (hk : 1 ≤ k) (e : kk r p (k - 1) < kk r p k) : Up r p (k + 1) := fun i j h1 h2 => by
  by_cases hj : j = k
  · subst hj
    by_cases hi : i = j - 1
    · rw [hi]; exact e
    · exact Int.lt_trans (h i (j - 1) (by omega) (by omega)) e
  · exact h i j h1 (by omega)
theorem Dn.next {p : Array Nat} {k : Nat} (h : Dn r p k) (hk : 1 ≤ k) (e : kk r p k < kk r p (k - 1)) : Dn r p (k + 1) := fun i j h1 h2 => by
  by_cases hj : j = k
  · subst hj
    by_cases hi : i = j - 1
    · rw [hi]; exact e
    · exact Int.lt_trans e (h i (j - 1) (by omega) (by omega))
  · exact h i j h1 (by omega)
theorem Pm.lt' {p : Array Nat} (P : Pm n r p) {i j : Nat} (hi : i < n) (hj : j < n) (ne : i ≠ j) (h : ¬ kk r p i < kk r p j) : kk r p j < kk r p i := by
  have := P.inj i j hi hj ne
  omega
variable (hc : ∀ i j C s, i < n → j < n → I s → (∀ s', I s' → C (decide (r i < r j)) s') → cmp i j C s)
include hc
theorem zoh {p : Array Nat} (P : Pm n r p) {Q : Nat → Shared → Prop} : ∀ (f m : Nat) (s : Shared), 1 ≤ m → m + f = n → I s → Up r p m → (∀ k s', I s' → m ≤ k → k ≤ n → Up r p k → (k = n ∨ kk r p k < kk r p (k - 1)) → (k = m ∨ kk r p m > kk r p (m - 1)) → Q k s') → (kas_asc p f m).kasWp cmp Q s
  | 0, m, s, h1, h2, hI, hu, q => q m s hI (Nat.le_refl _) (by omega) hu (.inl (by omega)) (.inl rfl)
  | f + 1, m, s, h1, h2, hI, hu, q => by
    refine hc _ _ _ s (P.lt m (by omega)) (P.lt (m - 1) (by omega)) hI fun s' hI' => ?_
    by_cases h : kk r p m < kk r p (m - 1)
    · have e : decide (r (p.getD m 0) < r (p.getD (m - 1) 0)) = true := decide_eq_true h
      simp only [e, if_true]
      exact q m s' hI' (Nat.le_refl _) (by omega) hu (.inr h) (.inl rfl)
    · have e : decide (r (p.getD m 0) < r (p.getD (m - 1) 0)) = false := decide_eq_false h
      simp only [e, Bool.false_eq_true, if_false]
      have hlt := P.lt' (by omega) (by omega) (by omega) h
      exact zoh P f (m + 1) s' (by omega) (by omega) hI' (hu.next h1 hlt) fun k s'' hs h3 h4 h5 h6 _ => q k s'' hs (by omega) h4 h5 h6 (.inr hlt)
theorem zoi {p : Array Nat} (P : Pm n r p) {Q : Array Nat × Nat × Nat → Shared → Prop} : ∀ (f m : Nat) (s : Shared), 1 ≤ m → m + f = n → I s → Dn r p m → (∀ k s', I s' → m ≤ k → k ≤ n → Dn r p k → Q (p, k, 0) s') → (kas_desc f p m 0).kasWp cmp Q s
  | 0, m, s, h1, h2, hI, hu, q => q m s hI (Nat.le_refl _) (by omega) hu
  | f + 1, m, s, h1, h2, hI, hu, q => by
    refine hc _ _ _ s (P.lt m (by omega)) (P.lt (m - 1) (by omega)) hI fun s' hI' => ?_
    by_cases h : kk r p m < kk r p (m - 1)
    · have e : decide (r (p.getD m 0) < r (p.getD (m - 1) 0)) = true := decide_eq_true h
      simp only [e, if_true, Nat.lt_irrefl, if_false, gt_iff_lt]
      exact zoi P f (m + 1) s' (by omega) (by omega) hI' (hu.next h1 h) fun k s'' hs h3 h4 h5 => q k s'' hs (by omega) h4 h5
    · have e : decide (r (p.getD m 0) < r (p.getD (m - 1) 0)) = false := decide_eq_false h
      simp only [e, Bool.false_eq_true, if_false]
      have hlt := P.lt' (by omega) (by omega) (by omega) h
      refine hc _ _ _ s' (P.lt (m - 1) (by omega)) (P.lt m (by omega)) hI' fun s'' hI'' => ?_
      have e2 : decide (r (p.getD (m - 1) 0) < r (p.getD m 0)) = true := decide_eq_true hlt
      simp only [e2, if_true]
      exact q m s'' hI'' (Nat.le_refl _) (by omega) hu
omit hc in
theorem Pm.rev {p : Array Nat} (hr : ∀ i j, i < n → j < n → i ≠ j → r i ≠ r j) (P : Pm n r p) (i j : Nat) : Pm n r (kas_rev p i j) := Pm.of hr ((mirror_perm p i j _).trans P.perm)
omit hc in
theorem zrg {p : Array Nat} {m k : Nat} (hm : m ≤ p.size) : kk r (kas_rev p 0 m) k = if k < m then kk r p (m - 1 - k) else kk r p k := by
  have e := getElem?_mirror_all (i := 0) hm k
  simp only [Nat.zero_le, true_and, Nat.zero_add] at e
  by_cases h : k < m
  · rw [if_pos h] at e ⊢
    simp only [kk, kas_rev, Array.getD_eq_getD_getElem?, e]
  · rw [if_neg h] at e ⊢
    simp only [kk, kas_rev, Array.getD_eq_getD_getElem?, e]
omit hc in
theorem Dn.rev {p : Array Nat} {m : Nat} (hm : m ≤ p.size) (h : Dn r p m) : Up r (kas_rev p 0 m) m := fun i j h1 h2 => by
  rw [zrg hm, zrg hm, if_pos (by omega), if_pos h2]
  exact h _ _ (by omega) (by omega)
theorem zp5 (hr : ∀ i j, i < n → j < n → i ≠ j → r i ≠ r j) {p : Array Nat} (P : Pm n r p) {m : Nat} {s : Shared} {Q : Nat × Array Nat → Shared → Prop} (h1 : 1 ≤ m) (h2 : m ≤ n) (hI : I s) (hd : Dn r p m)
    (q : ∀ k p' s', I s' → k ≤ n → 1 ≤ k → Pm n r p' → Up r p' k → Q (k, p') s') : (kas_tail3 m n p).kasWp cmp Q s := by
  unfold kas_tail3
  rw [KasT.kasWp_bind]
  have P' := P.rev hr 0 m
  refine zoh hc P' (n - m) m s h1 (by omega) hI (hd.rev (by rw [P.size]; exact h2)) fun k s' hs h3 h4 h5 _ _ => ?_
  exact q k _ s' hs h4 (by omega) P' h5
theorem zky (hr : ∀ i j, i < n → j < n → i ≠ j → r i ≠ r j) {p : Array Nat} (P : Pm n r p) {s : Shared} {Q : Nat × Array Nat → Shared → Prop} (h2 : 2 ≤ n) (hI : I s) (hd : kk r p 1 < kk r p 0)
    (q : ∀ k p' s', I s' → k ≤ n → 1 ≤ k → Pm n r p' → Up r p' k → Q (k, p') s') : (kas_descPart 1 n p).kasWp cmp Q s := by
  unfold kas_descPart
  rw [KasT.kasWp_bind]
  refine zoi hc P (n - 2) 2 s (by omega) (by omega) hI ((Dn.one (k := 1) (Nat.le_refl _)).next (Nat.le_refl _) hd) fun k s' hs h3 h4 h5 => ?_
  simp only [Nat.lt_irrefl, if_false, gt_iff_lt]
  exact zp5 hc hr P (by omega) h4 hs h5 q
theorem zp6 (hr : ∀ i j, i < n → j < n → i ≠ j → r i ≠ r j) {p : Array Nat} (P : Pm n r p) {s : Shared} {Q : Nat × Array Nat → Shared → Prop} (h2 : 2 ≤ n) (hI : I s)
    (q : ∀ k p' s', I s' → k ≤ n → 1 ≤ k → Pm n r p' → Up r p' k → Q (k, p') s') : (kas_count n p).kasWp cmp Q s := by
  unfold kas_count
  rw [KasT.kasWp_bind]
  refine zoh hc P (n - 1) 1 s (Nat.le_refl _) (by omega) hI (Up.one (Nat.le_refl _)) fun k s' hs h3 h4 h5 h6 h7 => ?_
  by_cases hk : k = n
  · subst hk
    simp only [beq_self_eq_true, if_true]
    exact q _ p s' hs (Nat.le_refl _) h3 P h5
  · have e : (k == n) = false := by simpa using hk
    simp only [e, Bool.false_eq_true, if_false]
    by_cases h1 : k > 1
    · simp only [h1, if_true]
      refine hc _ _ _ s' (P.lt 0 (by omega)) (P.lt (k - 1) (by omega)) hs fun s'' hs' => ?_
      have e2 : decide (r (p.getD 0 0) < r (p.getD (k - 1) 0)) = true := decide_eq_true (h5 0 (k - 1) (by omega) (by omega))
      simp only [e2, if_true]
      exact q _ p s'' hs' h4 h3 P h5
    · have ek : k = 1 := by omega
      subst ek
      simp only [Nat.lt_irrefl, if_false, gt_iff_lt]
      exact zky hc hr P h2 hs (h6.resolve_left hk) q
theorem zhP {p : Array Nat} (P : Pm n r p) {k : Nat} (hk : k < n) {Q : Nat → Shared → Prop} : ∀ (f l h : Nat) (s : Shared), h - l ≤ f → l ≤ h → h ≤ k → I s → (∀ i, i < l → kk r p i < kk r p k) → (∀ i, h ≤ i → i < k → kk r p k < kk r p i) → Up r p k →
    (∀ l s', I s' → l ≤ k → (∀ i, i < l → kk r p i < kk r p k) → (∀ i, l ≤ i → i < k → kk r p k < kk r p i) → Q l s') → (kas_place p k f l h).kasWp cmp Q s
  | 0, l, h, s, hf, h1, h2, hI, hl, hh, hu, q => q l s hI (by omega) hl fun i h3 h4 => hh i (by omega) h4
  | f + 1, l, h, s, hf, h1, h2, hI, hl, hh, hu, q => by
    unfold kas_place
    by_cases hge : l ≥ h
    · rw [if_pos hge]
      exact q l s hI (by omega) hl fun i h3 h4 => hh i (by omega) h4
    · rw [if_neg hge]
      refine hc _ _ _ s (P.lt k hk) (P.lt _ (by omega)) hI fun s' hI' => ?_
      by_cases hm : kk r p k < kk r p ((l + h) / 2)
      · have e : decide (r (p.getD k 0) < r (p.getD ((l + h) / 2) 0)) = true := decide_eq_true hm
        simp only [e, if_true]
        refine zhP P hk f l ((l + h) / 2) s' (by omega) (by omega) (by omega) hI' hl (fun i h3 h4 => ?_) hu q
        by_cases hi : i = (l + h) / 2
        · rw [hi]; exact hm
        · exact Int.lt_trans hm (hu _ _ (by omega) h4)
      · have e : decide (r (p.getD k 0) < r (p.getD ((l + h) / 2) 0)) = false := decide_eq_false hm
        simp only [e, Bool.false_eq_true, if_false]
        have hlt := P.lt' hk (by omega) (by omega) hm
        refine zhP P hk f ((l + h) / 2 + 1) h s' (by omega) (by omega) h2 hI' (fun i h3 => ?_) hh hu q
        by_cases hi : i = (l + h) / 2
        · rw [hi]; exact hlt
        · exact Int.lt_trans (hu i ((l + h) / 2) (by omega) (by omega)) hlt
omit hc in
theorem zi5 {p : Array Nat} {k d : Nat} (hk : k < p.size) (hd : d ≤ k) (i : Nat) : kk r (bubble p k d) i = if i = k - d then kk r p k else if k - d < i ∧ i ≤ k then kk r p (i - 1) else kk r p i := by
  have e := getElem?_bubble hk d hd i
  by_cases h : i = k - d
  · rw [if_pos h] at e ⊢
    simp only [kk, Array.getD_eq_getD_getElem?, e]
  · rw [if_neg h] at e ⊢
    by_cases h' : k - d < i ∧ i ≤ k
    · rw [if_pos h'] at e ⊢
      simp only [kk, Array.getD_eq_getD_getElem?, e]
    · rw [if_neg h'] at e ⊢
      simp only [kk, Array.getD_eq_getD_getElem?, e]
theorem zrh (hr : ∀ i j, i < n → j < n → i ≠ j → r i ≠ r j) {Q : Array Nat → Shared → Prop} : ∀ (f : Nat) (p : Array Nat) (k : Nat) (s : Shared), 1 ≤ k → k + f = n → Pm n r p → I s → Up r p k → (∀ p' s', I s' → Pm n r p' → Up r p' n → Q p' s') → (kas_bin f p k).kasWp cmp Q s
  | 0, p, k, s, h1, h2, P, hI, hu, q => q p s hI P (by rw [← h2]; exact hu)
  | f + 1, p, k, s, h1, h2, P, hI, hu, q => by
    unfold kas_bin
    rw [KasT.kasWp_bind]
    have hk : k < n := by omega
    refine zhP hc P hk k 0 k s (by omega) (Nat.zero_le _) (Nat.le_refl _) hI (fun i h => by omega) (fun i h3 h4 => by omega) hu fun l s' hI' hl h3 h4 => ?_
    have hks : k < p.size := by rw [P.size]; exact hk
    have P' : Pm n r (bubble p k (k - l)) := Pm.of hr ((bubble_perm p k _).trans P.perm)
    refine zrh hr f _ (k + 1) s' (by omega) (by omega) P' hI' (fun i j hij hj => ?_) q
    rw [zi5 hks (by omega), zi5 hks (by omega)]
    have ekl : k - (k - l) = l := by omega
    rw [ekl]
    by_cases hi : i = l
    · rw [if_pos hi, if_neg (by omega)]
      rw [if_pos (by omega)]
      exact h4 _ (by omega) (by omega)
    · rw [if_neg hi]
      by_cases hjl : j = l
      · rw [if_pos hjl, if_neg (by omega)]
        exact h3 i (by omega)
      · rw [if_neg hjl]
        by_cases hi2 : l < i ∧ i ≤ k
        · rw [if_pos hi2, if_pos (by omega)]
          exact hu _ _ (by omega) (by omega)
        · rw [if_neg hi2]
          by_cases hj2 : l < j ∧ j ≤ k
          · rw [if_pos hj2]
            by_cases he : i = j - 1
            · omega
            · exact hu _ _ (by omega) (by omega)
          · rw [if_neg hj2]
            exact hu _ _ (by omega) (by omega)
theorem zsv (hr : ∀ i j, i < n → j < n → i ≠ j → r i ≠ r j) {s : Shared} {Q : Array Nat → Shared → Prop} (h2 : 2 ≤ n) (hI : I s) (q : ∀ p s', I s' → Pm n r p → Up r p n → Q p s') : (kas_sort n).kasWp cmp Q s := by
  unfold kas_sort
  rw [KasT.kasWp_bind]
  have P0 : Pm n r (List.toArray (List.range n)) := Pm.of hr (Array.Perm.refl _)
  refine zp6 hc hr P0 h2 hI fun k p s' hI' hk h1 P hu => ?_
  by_cases hlt : k < n
  · simp only [hlt, if_true]
    have e : max k 1 = k := by omega
    rw [e]
    exact zrh hc hr (n - k) p k s' h1 (by omega) P hI' hu q
  · simp only [hlt, if_false]
    have e : k = n := by omega
    exact q p s' hI' P (by rw [← e]; exact hu)
end
end L2.LW
set_option maxHeartbeats 4000000
namespace L2.LW
open PySem PySem.Spec PySem.W PyProof.Rows
section
variable {prog : Program} {w : World} {A : Around} {E : Value → Shared → Prop} {s : Shared}
theorem zi6 {a : Addr} {vs : List Value} {n : Nat} {P : PySem.Fin → Shared → Prop} {κ : SortKind} (ho : s.heap.get? a = some (seqObj "list" vs.toArray n)) (h64 : vs.length < 64) {r : Nat → Int} (hr : ∀ i j, i < vs.length → j < vs.length → i ≠ j → r i ≠ r j)
    (hk : 2 ≤ vs.length → ∀ h' tk, (∀ b o, b ≠ a → s.heap.get? b = some o → h'.get? b = some o) → wpAny (model prog w) A (keyKind' vs.toArray) (fun κ' s' => κ' = κ ∧ ∃ tk', s' = { s with heap := h', toks := tk' }) (fun _ _ => False) { s with heap := h', toks := tk })
    (hc : ∀ i j h' tk (C : Bool → Shared → Prop), i < vs.length → j < vs.length → (∀ b o, b ≠ a → s.heap.get? b = some o → h'.get? b = some o) → (∀ tk', C (decide (r i < r j)) { s with heap := h', toks := tk' }) →
      wpAny (model prog w) A (keyLt' κ (vs.getD i Value.none) (vs.getD j Value.none)) C (fun _ _ => False) { s with heap := h', toks := tk })
    (h : ∀ p tk, Pm vs.length r p → Up r p vs.length → P (.done (.ret .none)) { s with heap := sortedHeap s.heap a vs (p.toList.map fun i => vs.getD i Value.none).toArray, toks := tk }) :
    wpAny (model prog w) A (Builtin.«list.sort» ⟨[.ref a], []⟩) P E s := by
  rw [list_sort_plain]
  have ha : a < s.heap.objs.size := Heap.lt_size ho
  refine wpAny_bind (listItems_at ho rfl ?_)
  refine wpAny_bind (listUpdate_at ho rfl ?_ (by rw [List.size_toArray, sizeLine_eq]; omega) (Nat.zero_le _))
  obtain ⟨e1, ho1⟩ : ∃ e1, (s.heap.update a (Obj.mapSeq fun _ => #[])).get? a = some (seqObj "list" #[] e1) := ⟨_, get?_update_seq ho (fun _ => #[])⟩
  refine wpAny_bind (seqEpoch_at ho1 rfl ?_)
  refine wpAny_bind (wpAny_newTuple ?_ (by show vs.length ≤ _; rw [sizeLine_eq]; omega))
  refine wpAny_bind (wpAny_newList ?_ (Nat.zero_le _))
  refine wpAny_holding ?_
  have ho6 : (((s.heap.update a (Obj.mapSeq fun _ => #[])).push (seqObj "tuple" vs.toArray 0)).push (seqObj "list" #[] 0)).get? a = some (seqObj "list" #[] e1) := by
    rw [Heap.get?_push_ne _ _ _ (by rw [size_push', Heap.size_update]; exact Nat.ne_of_lt (Nat.lt_succ_of_lt ha)), Heap.get?_push_ne _ _ _ (by rw [Heap.size_update]; exact Nat.ne_of_lt ha)]
    exact ho1
  have keep : ∀ b o, b ≠ a → s.heap.get? b = some o → (((s.heap.update a (Obj.mapSeq fun _ => #[])).push (seqObj "tuple" vs.toArray 0)).push (seqObj "list" #[] 0)).get? b = some o := fun b o hb e =>
    Heap.get?_push_of_some _ (Heap.get?_push_of_some _ (by rw [Heap.get?_update_ne _ _ _ _ hb]; exact e))
  show wpAny (model prog w) A _ P E { s with heap := ((s.heap.update a (Obj.mapSeq fun _ => #[])).push (seqObj "tuple" vs.toArray 0)).push (seqObj "list" #[] 0) }
  dsimp only
  have hsz : vs.toArray.size = vs.length := by simp
  have hid : Pm vs.length r (List.range vs.length).toArray := Pm.of hr (Array.Perm.refl _)
  by_cases h2 : vs.toArray.size < 2
  · rw [if_pos h2, if_pos h2]
    refine wpAny_bind (wpAny_pure ?_)
    rw [StateT.run_pure]
    refine wpAny_bind (wpAny_pure ?_)
    dsimp only
    refine wpAny_bind (seqEpoch_at ho6 rfl ?_)
    refine wpAny_bind (listUpdate_at ho6 rfl ?_ (Nat.zero_le _) (by rw [Array.size_map]; show (pairsOf vs).size ≤ _; rw [pairsOf_size, sizeLine_eq]; omega))
    simp only [bne_self_eq_false, Bool.false_eq_true, if_false]
    have hh := h (List.range vs.length).toArray s.toks hid (Up.one (by omega))
    have e : ((List.range vs.length).toArray.toList.map fun i => vs.getD i Value.none).toArray = (arrOf (SortSt.mk' general' (vs.toArray.zip vs.toArray) #[] 7 none)).map (·.2) := by
      show _ = (vs.toArray.zip vs.toArray).map (·.2)
      apply Array.toList_inj.mp
      simp
      apply List.ext_getElem
      · simp
      · intro i h1 h2; simp at h1; simp [h1]
    rw [e] at hh
    exact wpAny_pure hh
  · rw [if_neg h2, if_neg h2]
    rw [hsz] at h2
    have h2' : 2 ≤ vs.length := by omega
    refine wpAny_bind (wpAny_mono (hk h2' _ s.toks keep) (fun κ' s0 ⟨hκ, tk0, hs0⟩ => ?_) fun _ _ x => x.elim)
    subst hκ hs0
    refine wpAny_bind (wpAny_mono (kat_run (ks := vs) (Q := fun st' s' => ∃ (p : Array Nat) (tk : Nat), Pm vs.length r p ∧ Up r p vs.length ∧ arrOf st' = p.map (kas_item (vs.toArray.zip vs.toArray)) ∧ failedOf st' = Option.none ∧
        s' = { s with heap := ((s.heap.update a (Obj.mapSeq fun _ => #[])).push (seqObj "tuple" vs.toArray 0)).push (seqObj "list" #[] 0), toks := tk })
      (G := fun p s' => ∃ tk, Pm vs.length r p ∧ Up r p vs.length ∧ s' = { s with heap := ((s.heap.update a (Obj.mapSeq fun _ => #[])).push (seqObj "tuple" vs.toArray 0)).push (seqObj "list" #[] 0), toks := tk })
      rfl h2' h64 (fun p st' s' a1 a2 a3 ⟨tk, a4, a5, a6⟩ => ⟨p, tk, a4, a5, a2, a3, a6⟩) ?_) ?_ fun _ _ e => e)
    · exact zsv (I := fun s' => ∃ tk, s' = { s with heap := ((s.heap.update a (Obj.mapSeq fun _ => #[])).push (seqObj "tuple" vs.toArray 0)).push (seqObj "list" #[] 0), toks := tk })
        (fun i j C s' hi hj zz6 q => by
          obtain ⟨tk, hs'⟩ := zz6
          subst hs'
          exact hc i j _ tk C hi hj keep fun tk' => q _ ⟨tk', rfl⟩) hr h2' ⟨tk0, rfl⟩ fun p s' ⟨tk, hs'⟩ hp hu => ⟨tk, hp, hu, hs'⟩
    · rintro ⟨⟨⟩, st'⟩ s' ⟨p, tk, hp, hu, har, hf, rfl⟩
      dsimp only
      have hout := kat_snds (ks := vs) (vs := vs) rfl har
      rw [hout]
      refine wpAny_bind (seqEpoch_at ho6 rfl ?_)
      refine wpAny_bind (listUpdate_at ho6 rfl ?_ (Nat.zero_le _) (by rw [List.size_toArray, List.length_map, Array.length_toList, hp.size, sizeLine_eq]; omega))
      rw [hf]
      simp only [bne_self_eq_false, Bool.false_eq_true, if_false]
      exact wpAny_pure (h p tk hp hu)
theorem zmy {l : Addr} {vs : List Value} {Q : Value → Shared → Prop} {κ : SortKind} (hl : s.heap.IsList l vs.toArray) (h64 : vs.length < 64) {r : Nat → Int} (hr : ∀ i j, i < vs.length → j < vs.length → i ≠ j → r i ≠ r j)
    (hk : 2 ≤ vs.length → ∀ h' tk, (∀ b o, s.heap.get? b = some o → h'.get? b = some o) → wpAny (model prog w) A.in1.in1 (keyKind' vs.toArray) (fun κ' s' => κ' = κ ∧ ∃ tk', s' = { s with heap := h', toks := tk' }) (fun _ _ => False) { s with heap := h', toks := tk })
    (hc : ∀ i j h' tk (C : Bool → Shared → Prop), i < vs.length → j < vs.length → (∀ b o, s.heap.get? b = some o → h'.get? b = some o) → (∀ tk', C (decide (r i < r j)) { s with heap := h', toks := tk' }) →
      wpAny (model prog w) A.in1.in1 (keyLt' κ (vs.getD i Value.none) (vs.getD j Value.none)) C (fun _ _ => False) { s with heap := h', toks := tk })
    (h : ∀ p tk, Pm vs.length r p → Up r p vs.length → Q (.ref (s.heap.objs.size + 1)) { s with heap := sortedAll s.heap vs (p.toList.map fun i => vs.getD i Value.none).toArray, toks := tk }) :
    wpAny (model prog w) A (call (.builtin "sorted") [.ref l]) Q E s := by
  refine Calls.call_function_entry kind_sorted plain_sorted entry_sorted (args_sorted1 _) ?_
  unfold Builtin.«sorted»
  refine wpAny_bind (m := checkCount "sorted" 1 1 _) (wpAny_pure ?_)
  refine wpAny_bind (collect_list hl ?_ (by rw [sizeLine_eq]; omega))
  refine wpAny_bind (wpAny_newList ?_ (by rw [sizeLine_eq]; omega))
  have hsz : ((s.heap.push (seqObj "list" #[] 0)).update s.heap.objs.size (Obj.mapSeq (· ++ vs.toArray))).objs.size = s.heap.objs.size + 1 := by
    rw [Heap.size_update, size_push']
  have hoL : (((s.heap.push (seqObj "list" #[] 0)).update s.heap.objs.size (Obj.mapSeq (· ++ vs.toArray))).push (seqObj "list" vs.toArray 0)).get? (s.heap.objs.size + 1) = some (seqObj "list" vs.toArray 0) := by
    rw [← hsz]; exact Heap.get?_push_size _ rfl
  have keep : ∀ b o, s.heap.get? b = some o → (((s.heap.push (seqObj "list" #[] 0)).update s.heap.objs.size (Obj.mapSeq (· ++ vs.toArray))).push (seqObj "list" vs.toArray 0)).get? b = some o := fun b o q => by
    have hlt : b < s.heap.objs.size := Heap.lt_size q
    rw [Heap.get?_push_ne _ _ _ (by rw [hsz]; exact Nat.ne_of_lt (Nat.lt_succ_of_lt hlt)), Heap.get?_update_ne _ _ _ _ (Nat.ne_of_lt hlt), Heap.get?_push_ne _ _ _ (Nat.ne_of_lt hlt)]
    exact q
  have nea : ∀ b o, s.heap.get? b = some o → b ≠ s.heap.objs.size + 1 := fun b o e => Nat.ne_of_lt (Nat.lt_succ_of_lt (Heap.lt_size e))
  show wpAny _ _ _ _ _ { s with heap := ((s.heap.push (seqObj "list" #[] 0)).update s.heap.objs.size (Obj.mapSeq (· ++ vs.toArray))).push (seqObj "list" vs.toArray 0) }
  rw [hsz]
  refine wpAny_bind (wpAny_holding (wpAny_call_entry slot_list_sort ⟨_, hoL, rfl⟩ entry_list_sort (zi6 (κ := κ) (r := r) hoL h64 hr (fun h2 h' tk hk' => ?_) (fun i j h' tk C hi hj hk' q => ?_) fun p tk hp hu => ⟨_, rfl, ?_⟩) (args_list_sort _)))
  · exact hk h2 h' tk fun b o e => hk' b o (nea b o e) (keep b o e)
  · exact hc i j h' tk C hi hj (fun b o e => hk' b o (nea b o e) (keep b o e)) q
  · exact wpAny_pure ⟨_, rfl, h p tk hp hu⟩
end
theorem zbv : ∀ x : List Int, LW.lexLt x x = false
  | [] => rfl
  | a :: x => by rw [LW.lexLt, if_pos rfl]; exact zbv x
theorem zcB : ∀ {x y z : List Int}, LW.lexLt x y = true → LW.lexLt y z = true → LW.lexLt x z = true
  | x, [], _, h, _ => by cases x <;> simp [LW.lexLt] at h
  | _, _ :: _, [], _, h => by cases h
  | [], _ :: _, _ :: _, _, _ => rfl
  | a :: x, b :: y, c :: z, h1, h2 => by
    rw [LW.lexLt] at h1 h2 ⊢
    by_cases e1 : a = b
    · by_cases e2 : b = c
      · rw [if_pos e1] at h1
        rw [if_pos e2] at h2
        rw [if_pos (e1.trans e2)]
        exact zcB h1 h2
      · rw [if_neg e2, decide_eq_true_iff] at h2
        rw [if_neg (by omega), decide_eq_true_iff]
        omega
    · rw [if_neg e1, decide_eq_true_iff] at h1
      by_cases e2 : b = c
      · rw [if_neg (by omega), decide_eq_true_iff]; omega
      · rw [if_neg e2, decide_eq_true_iff] at h2
        rw [if_neg (by omega), decide_eq_true_iff]; omega
theorem zdh : ∀ {x y : List Int}, x ≠ y → LW.lexLt x y = true ∨ LW.lexLt y x = true
  | [], [], h => absurd rfl h
  | [], _ :: _, _ => .inl rfl
  | _ :: _, [], _ => .inr rfl
  | a :: x, b :: y, h => by
    rw [LW.lexLt, LW.lexLt]
    by_cases e : a = b
    · rw [if_pos e, if_pos e.symm]
      exact zdh fun z => h (by rw [e, z])
    · rw [if_neg e, if_neg (fun z => e z.symm), decide_eq_true_iff, decide_eq_true_iff]
      omega
noncomputable abbrev zm9 (x y : List Int) : Prop := LW.lexLt x y = true
theorem zfW (x : List Int) : ∀ l, (zr0 x l).Perm (x :: l)
  | [] => .refl _
  | y :: r => by
    unfold zr0
    split
    · exact .refl _
    · exact ((zfW x r).cons y).trans (.swap x y r)
theorem zcC : ∀ l, (zgD l).Perm l
  | [] => .refl _
  | x :: r => (zfW x _).trans ((zcC r).cons x)
theorem zoj {x : List Int} : ∀ {l : List (List Int)}, l.Pairwise zm9 → (∀ y ∈ l, x ≠ y) → (zr0 x l).Pairwise zm9
  | [], _, _ => by simp [zr0]
  | y :: r, h, hn => by
    rw [List.pairwise_cons] at h
    unfold zr0
    split
    · rename_i hx
      rw [List.pairwise_cons, List.pairwise_cons]
      refine ⟨fun z hz => ?_, h⟩
      rcases List.mem_cons.mp hz with rfl | hz
      · exact hx
      · exact zcB hx (h.1 z hz)
    · rename_i hx
      have hyx : zm9 y x := (zdh (hn y List.mem_cons_self)).resolve_left hx
      rw [List.pairwise_cons]
      refine ⟨fun z hz => ?_, zoj h.2 fun z hz => hn z (List.mem_cons_of_mem _ hz)⟩
      rcases List.mem_cons.mp ((zfW x r).mem_iff.mp hz) with rfl | hz
      · exact hyx
      · exact h.1 z hz
theorem zfB : ∀ {l : List (List Int)}, l.Nodup → (zgD l).Pairwise zm9
  | [], _ => List.Pairwise.nil
  | x :: r, h => by
    rw [List.nodup_cons] at h
    exact zoj (zfB h.2) fun y hy e => h.1 ((zcC r).mem_iff.mp (e ▸ hy))
theorem zkz : ∀ {l m : List (List Int)}, l.Perm m → l.Pairwise zm9 → m.Pairwise zm9 → l = m
  | [], m, h, _, _ => (List.Perm.nil_eq h)
  | x :: l, [], h, _, _ => by have := h.length_eq; simp at this
  | x :: l, y :: m, h, h1, h2 => by
    rw [List.pairwise_cons] at h1 h2
    have e : x = y := by
      rcases List.mem_cons.mp (h.mem_iff.mp List.mem_cons_self) with e | hx
      · exact e
      · rcases List.mem_cons.mp (h.mem_iff.mpr List.mem_cons_self) with e | hy
        · exact e.symm
        · have q1 := h2.1 x hx
          have q2 := h1.1 y hy
          have := zcB q1 q2
          rw [zbv] at this; cases this
    subst e
    rw [zkz (List.Perm.cons_inv h) h1.2 h2.2]
noncomputable def rkT (ks : List (List Int)) (x : List Int) : Int := ((ks.filter fun y => LW.lexLt y x).length : Nat)
theorem zg8 {ks : List (List Int)} {x y : List Int} (hx : x ∈ ks) (h : zm9 x y) : rkT ks x < rkT ks y := by
  unfold rkT
  have key : ∀ l : List (List Int), (l.filter fun z => LW.lexLt z x).length ≤ (l.filter fun z => LW.lexLt z y).length ∧ (x ∈ l → (l.filter fun z => LW.lexLt z x).length < (l.filter fun z => LW.lexLt z y).length) := by
    intro l
    induction l with
    | nil => exact ⟨Nat.le_refl _, fun z => by cases z⟩
    | cons z l ih =>
      rw [List.filter_cons, List.filter_cons]
      by_cases h1 : LW.lexLt z x = true
      · have h2 := zcB h1 h
        rw [if_pos h1, if_pos h2]
        simp only [List.length_cons]
        refine ⟨by omega, fun hz => ?_⟩
        rcases List.mem_cons.mp hz with rfl | hz
        · rw [zbv] at h1; cases h1
        · have := ih.2 hz; omega
      · rw [if_neg h1]
        by_cases h2 : LW.lexLt z y = true
        · rw [if_pos h2]
          simp only [List.length_cons]
          exact ⟨by omega, fun _ => by omega⟩
        · rw [if_neg h2]
          refine ⟨ih.1, fun hz => ?_⟩
          rcases List.mem_cons.mp hz with rfl | hz
          · exact absurd h h2
          · exact ih.2 hz
  have := (key ks).2 hx
  omega
theorem zhQ {ks : List (List Int)} {x y : List Int} (hx : x ∈ ks) (hy : y ∈ ks) (hne : x ≠ y) : decide (rkT ks x < rkT ks y) = LW.lexLt x y := by
  rcases zdh hne with h | h
  · have := zg8 hx h
    rw [h, decide_eq_true_iff]; exact this
  · have h1 := zg8 hy h
    have h2 : LW.lexLt x y = false := by
      cases e : LW.lexLt x y with
      | false => rfl
      | true => have := zcB e h; rw [zbv] at this; cases this
    rw [h2, decide_eq_false_iff_not]; omega
section
variable {X : Cx} {pins : List (Addr × Obj)} {σ : St} {H : Hp} {s : Shared} {W : Addr → Prop}
noncomputable def zkA (h : Heap) (v : Value) (k : List Int) : Prop := ∃ a o its n, v = .ref a ∧ h.get? a = some o ∧ o.cls = .type "tuple" ∧ o.data = .seq its n ∧ IntsAre its.toList k
theorem zkB (I : Inv X pins σ H s) : ∀ {ds : List D} {xs : List V} {us : List Value} {ks : List (List Int)}, Reps X.K W H ds xs → Vals xs us → tups? ds = some ks → Paired (zkA s.heap) us ks
  | _, _, _, ks, .nil, r, e => by cases r; simp [tups?] at e; subst e; exact .nil
  | _, _, _, ks, .cons h t, r, e => by
    cases r with
    | cons r1 r2 =>
      cases h with
      | tup hH rp =>
        simp only [tups?, jo1, jo2] at e
        obtain ⟨k, e1, ks', e2, rfl⟩ := e
        refine .cons ?_ (zkB I t r2 e2)
        cases r1
        obtain ⟨its, rv, ⟨o, ho, hc, n, hd⟩, _⟩ := I.tuple (.of hH)
        rw [rp.ofInts e1] at rv
        exact ⟨_, o, its.toArray, n, rfl, ho, hc, hd, by simpa using zbR rv⟩
      | _ => simp [tups?] at e
theorem zdi {α β : Type} {F : α → β → Prop} : ∀ {xs : List α} {ys : List β} {i : Nat}, Paired F xs ys → i < xs.length → ∃ x y, xs[i]? = some x ∧ ys[i]? = some y ∧ F x y
  | _, _, _, .nil, h => by simp at h
  | _, _, 0, .cons h _, _ => ⟨_, _, rfl, rfl, h⟩
  | _, _, i + 1, .cons _ t, h => by
    obtain ⟨x, y, h1, h2, h3⟩ := zdi (i := i) t (by simpa using h)
    exact ⟨x, y, by simpa using h1, by simpa using h2, h3⟩
theorem zeN {h : Heap} : ∀ {us : List Value} {ks : List (List Int)}, Paired (zkA h) us ks → (∀ k ∈ ks, k ≠ []) → ∃ fs, KatTups h us fs ∧ fs.length = us.length ∧ ∀ v ∈ fs, ∃ i t, v = Value.int i t
  | _, _, .nil, _ => ⟨[], .nil, rfl, fun _ z => by cases z⟩
  | _, _, .cons hx t, hn => by
    obtain ⟨fs, h1, h2, h3⟩ := zeN t fun k hk => hn k (List.mem_cons_of_mem _ hk)
    obtain ⟨a, o, its, n, rfl, ho, hc, hd, hi⟩ := hx
    have hne := hn _ List.mem_cons_self
    cases hi' : its.toList with
    | nil => rw [hi'] at hi; cases hi; exact absurd rfl hne
    | cons v r =>
      rw [hi'] at hi
      cases hi with
      | cons i t' hr =>
        refine ⟨.int i t' :: fs, .cons ho hc hd (by rw [← Array.getElem?_toList, hi']; rfl) h1, by simp [h2], fun v hv => ?_⟩
        rcases List.mem_cons.mp hv with rfl | hv
        · exact ⟨_, _, rfl⟩
        · exact h3 v hv
theorem zdW {prog : Program} {w : World} {A : Around} {Q : Bool → Shared → Prop} {s : Shared} {fin : Bool} : ∀ {us vs : List Value} {x y : List Int} (i : Nat), IntsAre us x → IntsAre vs y → (fin = decide (us.length < vs.length)) → Q (LW.lexLt x y) s → KatLex prog w A true fin Q (us.zip vs) i s
  | _, _, _, _, i, .nil, hv, hf, q => by
    cases hv with
    | nil => subst hf; exact kat_nil q
    | cons j t hv => subst hf; exact kat_nil q
  | _, _, _, _, i, .cons a t hu, hv, hf, q => by
    cases hv with
    | nil => subst hf; exact kat_nil q
    | cons b t' hv =>
      refine kat_cons (wpAny_eqBool_int ?_)
      by_cases e : a = b
      · subst e
        have : (a == a) = true := by simp
        rw [this]
        refine kat_yes (zdW (i + 1) hu hv (by rw [hf]; simp) ?_)
        rw [LW.lexLt, if_pos rfl] at q
        exact q
      · have : (a == b) = false := by simpa using e
        rw [this]
        refine kat_no ?_
        rw [LW.lexLt, if_neg e] at q
        cases i with
        | zero => exact oneLt_int q
        | succ i =>
          have e2 : (true && (i + 1 == 0)) = false := rfl
          rw [e2]
          exact kat_one _ _ (lt_int q)
theorem za2 {α : Type} {l : List α} {i : Nat} {x d : α} (h : l[i]? = some x) : l.getD i d = x := by
  rw [List.getD_eq_getElem?_getD, h]; rfl
theorem zi7 {xs : List V} {us : List Value} (r : Vals xs us) (p : List Nat) (hp : ∀ i ∈ p, i < us.length) : Vals (p.map fun i => xs.getD i .non) (p.map fun i => us.getD i Value.none) := by
  induction p with
  | nil => exact .nil
  | cons i p ih =>
    refine .cons ?_ (ih fun j hj => hp j (List.mem_cons_of_mem _ hj))
    have hi := hp i List.mem_cons_self
    have hl := r.length
    obtain ⟨u, h1, h2⟩ := r.get (i := i) (x := xs[i]'(by omega)) (by simp)
    show RelV (xs.getD i .non) (us.getD i Value.none)
    rw [za2 h1, za2 (x := xs[i]'(by omega)) (by simp)]
    exact h2
theorem zi8 {ds : List D} {xs : List V} (r : Reps X.K W H ds xs) (p : List Nat) (hp : ∀ i ∈ p, i < ds.length) : Reps X.K W H (p.map fun i => ds.getD i .non) (p.map fun i => xs.getD i .non) := by
  induction p with
  | nil => exact .nil
  | cons i p ih =>
    refine .cons ?_ (ih fun j hj => hp j (List.mem_cons_of_mem _ hj))
    have hi := hp i List.mem_cons_self
    obtain ⟨x, h1, h2⟩ := r.get (i := i) (d := ds[i]) (by simp)
    show Rep X.K W H (ds.getD i .non) (xs.getD i .non)
    rw [za2 h1, za2 (x := ds[i]) (by simp)]
    exact h2
theorem zok : ∀ {ds : List D} {ks : List (List Int)}, tups? ds = some ks → ds = ks.map kT
  | [], ks, e => by simp [tups?] at e; subst e; rfl
  | d :: r, ks, e => by
    cases d with
    | tup l =>
      simp only [tups?, jo1, jo2] at e
      obtain ⟨k, e1, ks', e2, rfl⟩ := e
      rw [zok e2, zdU e1]; rfl
    | _ => simp [tups?] at e
theorem zi9 : zcz X (.builtin "sorted") (VR X.K (zal .sorted)) := by
  rintro pins s σ H xs us Q I rv ⟨W, ds, r, wf, hs, hf, q⟩
  replace hf : zkm ds = some r := hf
  unfold zkm at hf
  split at hf
  case h_2 => cases hf
  rename_i l
  unfold zhy at hf
  split at hf
  · rename_i ns e1
    split at hf
    · rename_i h64
      cases hf
      exact zmw (ds := [.lst l]) I rv hs e1 h64 q
    · cases hf
  · rw [jo1] at hf
    obtain ⟨ks, e1, hf⟩ := hf
    split at hf
    case isFalse => cases hf
    rename_i hcond
    cases hf
    obtain ⟨h64, hnd, hne⟩ := hcond
    have hne' : ∀ k ∈ ks, k ≠ [] := fun k hk e => by
      have := List.all_eq_true.mp hne k hk
      rw [e] at this; cases this
    cases hs with
    | cons h1 t =>
      cases t
      obtain ⟨p, ys, rfl, hp, rp⟩ := h1.lst
      obtain ⟨u, rfl, ru⟩ := zfI rv
      cases ru
      obtain ⟨its, rv', pl, hz⟩ := I.list hp
      have hT := zkB I rp rv' e1
      have hlen : its.length = ks.length := Paired.length hT
      have hl2 := rp.length
      have hl3 := rv'.length
      let r : Nat → Int := fun i => rkT ks (ks.getD i [])
      have memk : ∀ i, i < its.length → ks.getD i [] ∈ ks := fun i hi => by
        rw [za2 (x := ks[i]'(by omega)) (by simp)]; exact List.getElem_mem _
      have injk : ∀ i j, i < its.length → j < its.length → i ≠ j → ks.getD i [] ≠ ks.getD j [] := fun i j hi hj ne e => by
        rw [za2 (x := ks[i]'(by omega)) (by simp), za2 (x := ks[j]'(by omega)) (by simp)] at e
        exact ne ((List.getElem_inj hnd).mp e)
      have zcS : ∀ {h' : Heap}, (∀ b o, s.heap.get? b = some o → h'.get? b = some o) → ∀ {v : Value} {k : List Int}, zkA s.heap v k → zkA h' v k := by
        intro h' hk v k ⟨a, o, i, n, h1, h2, h3⟩
        exact ⟨a, o, i, n, h1, hk _ _ h2, h3⟩
      refine zmy (κ := tuples' (Value.type "int" != Value.type "tuple")) (r := r) pl.isList (by omega) (fun i j hi hj ne e => ?_) (fun h2 h' tk hk => ?_) (fun i j h' tk C hi hj hk qC => ?_) fun pm tk hpm hup => ?_
      · rcases zdh (injk i j hi hj ne) with z | z
        · have := zg8 (memk i hi) z
          have e : rkT ks (ks.getD i []) = rkT ks (ks.getD j []) := e
          omega
        · have := zg8 (memk j hj) z
          have e : rkT ks (ks.getD i []) = rkT ks (ks.getD j []) := e
          omega
      · obtain ⟨fs, f1, f2, f3⟩ := zeN (Paired.imp' (fun v k z => zcS hk z) hT) hne'
        exact kat_kind (s := { s with heap := h', toks := tk }) f1 (by omega) (fun v hv => by obtain ⟨i, t, rfl⟩ := f3 v hv; exact Looks.of_pure rfl) (by simp) ⟨rfl, tk, rfl⟩
      · obtain ⟨x1, k1, a1, a2, a3⟩ := zdi hT hi
        obtain ⟨x2, k2, b1, b2, b3⟩ := zdi hT hj
        rw [za2 a1, za2 b1]
        obtain ⟨a, o, i1, n, rfl, c1, c2, c3, c4⟩ := zcS hk a3
        obtain ⟨b, o', i2, n', rfl, d1, d2, d3, d4⟩ := zcS hk b3
        have er : decide (r i < r j) = LW.lexLt k1 k2 := by
          show decide (rkT ks (ks.getD i []) < rkT ks (ks.getD j [])) = _
          by_cases e : i = j
          · subst e
            rw [a2] at b2; cases b2
            rw [zbv]; simp
          · have := zhQ (memk i hi) (memk j hj) (injk i j hi hj e)
            rw [za2 a2, za2 b2] at this
            rw [za2 a2, za2 b2]
            exact this
        rw [er] at qC
        refine kat_lt (s := { s with heap := h', toks := tk }) c1 c3 d1 d3 ?_
        exact zdW 0 c4 d4 (by simp) (qC tk)
      · obtain ⟨e, he⟩ := sortedAll_at s.heap its (pm.toList.map fun i => its.getD i Value.none).toArray
        have hlt : ∀ i ∈ pm.toList, i < its.length := fun i hi => by
          have := (Array.perm_iff_toList_perm.mp hpm.perm).mem_iff.mp hi
          simpa using this
        have fr : H (s.heap.objs.size + 1) = Option.none := I.hok.fresh (Nat.le_succ _)
        have hperm : (pm.toList.map fun i => ks.getD i []).Perm ks := by
          have h1 := (Array.perm_iff_toList_perm.mp hpm.perm).map fun i => ks.getD i []
          refine h1.trans (List.Perm.of_eq ?_)
          apply List.ext_getElem
          · simp [hlen]
          · intro i h1 h2; simp at h1; simp [h1, h2]
        have hupk : (pm.toList.map fun i => ks.getD i []).Pairwise zm9 := by
          rw [List.pairwise_iff_getElem]
          intro i j hi hj hij
          rw [List.length_map, Array.length_toList, hpm.size] at hi hj
          have h1 := hup i j hij (by omega)
          have li := hpm.lt i hi
          have lj := hpm.lt j hj
          simp only [List.getElem_map, Array.getElem_toList]
          have gi : pm.getD i 0 = pm[i]'(by rw [hpm.size]; exact hi) := by simp [Array.getD, hpm.size, hi]
          have gj : pm.getD j 0 = pm[j]'(by rw [hpm.size]; exact hj) := by simp [Array.getD, hpm.size, hj]
          unfold kk at h1
          rw [gi] at h1 li
          rw [gj] at h1 lj
          have hne : pm[i]'(by rw [hpm.size]; exact hi) ≠ pm[j]'(by rw [hpm.size]; exact hj) := fun z => by rw [z] at h1; omega
          have := zhQ (memk _ li) (memk _ lj) (injk _ _ li lj hne)
          show LW.lexLt _ _ = true
          rw [← this, decide_eq_true_iff]
          exact h1
        have heq : (pm.toList.map fun i => ks.getD i []) = zgD ks := zkz (hperm.trans (zcC ks).symm) hupk (zfB hnd)
        have hds : (pm.toList.map fun i => l.getD i .non) = (zgD ks).map kT := by
          rw [← heq, List.map_map]
          apply List.map_congr_left
          intro i hi
          have hi' := hlt i hi
          rw [zok e1]
          show (ks.map kT).getD i .non = kT (ks.getD i [])
          rw [za2 (x := kT (ks[i]'(by omega))) (by simp [show i < ks.length by omega]), za2 (x := ks[i]'(by omega)) (by simp)]
        have hrep := zi8 rp pm.toList fun i hi => by have := hlt i hi; omega
        rw [hds] at hrep
        have hvals := zi7 rv' pm.toList fun i hi => hlt i hi
        refine ⟨.ref (s.heap.objs.size + 1), upd H (s.heap.objs.size + 1) (.lst (pm.toList.map fun i => ys.getD i .non)), I.laid (t' := tk) (fun _ _ => sortedAll_old) (Nat.le_succ _) ⟨?_, _, e, hvals, ?_⟩, rfl, q _ _ (zaP fr _) (zeJ fr hrep)⟩
        · rw [List.length_map, Array.length_toList, hpm.size]; exact Nat.le_of_lt (zc9 (by omega))
        · simpa [seqObj] using he
end
end L2.LW
set_option maxHeartbeats 4000000
namespace L2.LW
open PySem PySem.Spec PySem.W PyProof.Rows
section
variable {X : Cx} {fn : Nat → List D → Option SV} {fa : Nat → List D → Option Ans} {fuel : Nat} {e : Expr} {pos : Pos} {sts : List Stmt} {ss : Ss}
theorem zol {xs : Array (Int × Tok)} {ns : List Int} (h1 : xs.size = ns.length) (h2 : ∀ i, (h : i < ns.length) → numAt xs i = ns[i]) : preSum (numAt xs) xs.size = ns.sum := by
  rw [h1]
  have key : ∀ k, k ≤ ns.length → preSum (numAt xs) k = (ns.take k).sum := by
    intro k
    induction k with
    | zero => intro _; rfl
    | succ k ih =>
      intro hk
      show preSum (numAt xs) k + numAt xs k = _
      rw [ih (by omega), h2 k (by omega), List.take_succ_eq_append_getElem (by omega), List.sum_append]
      simp only [List.sum_cons, List.sum_nil]; omega
  have := key ns.length (Nat.le_refl _)
  rwa [List.take_length] at this
theorem zsw (hc : X.calm = true) : zcz X (.builtin "sum") (VR X.K (zal .sumL)) := by
  rintro pins s σ H xs us Q I rv ⟨W, ds, r, wf, hs, hf, q⟩
  replace hf : zpN ds = some r := hf
  unfold zpN at hf
  split at hf
  · rw [jo1] at hf
    obtain ⟨ns, e1, hf⟩ := hf
    cases hf
    cases hs with
    | cons h1 t =>
      cases t
      obtain ⟨p, ys, rfl, hp, rp⟩ := h1.lst
      have ey := rp.ofInts e1
      subst ey
      obtain ⟨u, rfl, ru⟩ := zfI rv
      cases ru
      obtain ⟨its, rv', pl, hz⟩ := I.list hp
      obtain ⟨xs, x1, x2, x3⟩ := zfV (zbR rv')
      have hpl := pl.isList
      rw [x1] at hpl
      refine sum_intListG (I.ok.hd hc) hpl fun h' tk t' hk => ?_
      rw [zol x2 x3]
      exact ⟨.int _, H, I.kept (t' := tk) hk, ⟨_, rfl⟩, q _ H (.refl H) (.val (.int _))⟩
  · rw [jo1] at hf
    obtain ⟨ns, e1, hf⟩ := hf
    cases hf
    cases hs with
    | cons h1 t =>
      cases t
      obtain ⟨p, ys, rfl, hp, rp⟩ := h1.tup
      have ey := rp.ofInts e1
      subst ey
      obtain ⟨u, rfl, ru⟩ := zfI rv
      cases ru
      obtain ⟨its, rv', pl, hz⟩ := I.tuple hp
      obtain ⟨xs, x1, x2, x3⟩ := zfV (zbR rv')
      rw [x1] at pl
      refine ktm_sumG (I.ok.hd hc) pl fun h' tk t' hk => ?_
      rw [zol x2 x3]
      exact ⟨.int _, H, I.kept (t' := tk) hk, ⟨_, rfl⟩, q _ H (.refl H) (.val (.int _))⟩
  · cases hf
end
end L2.LW
set_option maxHeartbeats 4000000
namespace L2.LW
open PySem PySem.Spec PySem.W PySem.Calls PyProof.Rows
noncomputable def RawD (h : Heap) (d : Addr) (tb : Array DictEntry) (ep : Nat) : Prop := ∃ o, h.get? d = some o ∧ o.ExactDict ∧ o.data = .dict tb ep
section
variable {prog : Program} {w : World} {A : Around} {E : Value → Shared → Prop} {s : Shared} {it d : Addr} {k ep : Nat} {tb : Array DictEntry} {Q : Option Value → Shared → Prop}
theorem zp7 (hi : s.heap.IsKeyIter it d k tb.size ep) (hr : RawD s.heap d tb ep) (lt : k < tb.size)
    (q : ∀ h2, h2.IsKeyIter it d (k + 1) tb.size ep → Heap.SameBut it s.heap h2 → Q (some tb[k].key) { s with heap := h2 }) : wpAny (model prog w) A (pyNext (.ref it)) Q E s := by
  obtain ⟨oi, ei, ci, di⟩ := id hi
  obtain ⟨ot, et, ct, dt⟩ := id hr
  unfold pyNext
  refine wpAny_bind (wpAny_attempt (wpAny_callSpecial?_slot (name := Str.ofString "__next__") hi.typeIs PySem.F.slot_dict_keyiterator_next (wpAny_call_entry PySem.F.slot_dict_keyiterator_next hi.typeIs PySem.F.entry_dict_keyiterator_next ?_ (PySem.F.args_dict_keyiterator_next_1 _))))
  refine wpAny_bind (wpAny_pure (wpAny_bind (wpAny_bind ?_)))
  first | refine wpAny_bind (wpAny_typeNameOfWhole_keyiter hi.typeIs (wpAny_pure (wpAny_bind (wpAny_fieldsOf ei di ?_)))) | refine wpAny_bind (wpAny_typeNameOf_keyiter hi.typeIs (wpAny_pure (wpAny_bind (wpAny_fieldsOf ei di ?_))))
  have own : Builtin.Dict_items.ownsTuple "dict_keyiterator" = false := rfl
  simp only [own, Bool.false_eq_true, if_false]
  show wpAny _ _ (if (Value.ref d == Value.none) = true then _ else _) _ _ s
  rw [if_neg (by intro z; cases z)]
  refine wpAny_bind (wpAny_pure (wpAny_bind (wpAny_dictEntries et dt ?_)))
  rw [if_neg (by simp)]
  refine wpAny_bind (wpAny_pure (wpAny_bind (wpAny_dictEpoch et dt ?_)))
  rw [if_neg (by simp)]
  have nn : ¬ ((k : Int) < 0) := by omega
  refine wpAny_pure ?_
  simp only [nn, if_false, Int.toNat_natCast, Array.getElem?_eq_getElem lt]
  refine wpAny_bind ?_
  first | refine wpAny_bind (wpAny_typeNameOfWhole_keyiter hi.typeIs (wpAny_pure (wpAny_bind (wpAny_isOneOf_keyiter hi.typeIs ?_)))) | refine wpAny_bind (wpAny_typeNameOf_keyiter hi.typeIs (wpAny_pure (wpAny_bind (wpAny_isOneOf_keyiter hi.typeIs ?_))))
  show wpAny _ _ (setField (.ref it) 1 (rawInt ((k : Int) + 1)) >>= _) _ _ s
  have hi2 : (s.heap.update it (Obj.mapFields fun fs => fs.setIfInBounds 1 (rawInt ((k : Int) + 1)))).IsKeyIter it d (k + 1) tb.size ep :=
    ⟨_, Heap.get?_update_self _ ei (Obj.isFreed_of_fields (Obj.data_mapFields di _)), (Obj.cls_mapFields ..).trans ci, by rw [Obj.data_mapFields di]; simp [rawInt]⟩
  refine wpAny_bind (wpAny_setField ei di (by simp) (wpAny_bind (wpAny_holding (wpAny_bind (wpAny_isOneOf_keyiter (s := { s with heap := s.heap.update it (Obj.mapFields fun fs => fs.setIfInBounds 1 (rawInt ((k : Int) + 1))) }) hi2.typeIs ?_)))))
  show wpAny _ _ (pure tb[k].key) _ _ _
  exact wpAny_pure (wpAny_pure ⟨_, rfl, wpAny_pure (q _ hi2 (Heap.SameBut.update ..))⟩)
theorem zsx (hh : A.handled = none) (hi : s.heap.IsKeyIter it d tb.size tb.size ep) (hr : RawD s.heap d tb ep) (q : ∀ h2, Heap.ExtBut it s.heap h2 → Q none { s with heap := h2 }) : wpAny (model prog w) A (pyNext (.ref it)) Q E s := by
  obtain ⟨oi, ei, ci, di⟩ := id hi
  obtain ⟨ot, et, ct, dt⟩ := id hr
  unfold pyNext
  refine wpAny_bind (wpAny_attempt (wpAny_callSpecial?_slot (name := Str.ofString "__next__") hi.typeIs PySem.F.slot_dict_keyiterator_next (wpAny_call_entry PySem.F.slot_dict_keyiterator_next hi.typeIs PySem.F.entry_dict_keyiterator_next ?_ (PySem.F.args_dict_keyiterator_next_1 _))))
  refine wpAny_bind (wpAny_pure (wpAny_bind (wpAny_bind ?_)))
  first | refine wpAny_bind (wpAny_typeNameOfWhole_keyiter hi.typeIs (wpAny_pure (wpAny_bind (wpAny_fieldsOf ei di ?_)))) | refine wpAny_bind (wpAny_typeNameOf_keyiter hi.typeIs (wpAny_pure (wpAny_bind (wpAny_fieldsOf ei di ?_))))
  have own : Builtin.Dict_items.ownsTuple "dict_keyiterator" = false := rfl
  simp only [own, Bool.false_eq_true, if_false]
  show wpAny _ _ (if (Value.ref d == Value.none) = true then _ else _) _ _ s
  rw [if_neg (by intro z; cases z)]
  refine wpAny_bind (wpAny_pure (wpAny_bind (wpAny_dictEntries et dt ?_)))
  rw [if_neg (by simp)]
  refine wpAny_bind (wpAny_pure (wpAny_bind (wpAny_dictEpoch et dt ?_)))
  rw [if_neg (by simp)]
  have nn : ¬ ((tb.size : Int) < 0) := by omega
  refine wpAny_pure ?_
  simp only [nn, if_false, Int.toNat_natCast, Array.getElem?_eq_none (Nat.le_refl tb.size)]
  refine wpAny_bind ?_
  first | refine wpAny_bind (wpAny_typeNameOfWhole_keyiter hi.typeIs (wpAny_pure ?_)) | refine wpAny_bind (wpAny_typeNameOf_keyiter hi.typeIs (wpAny_pure ?_))
  show wpAny _ _ (setField (.ref it) 0 .none >>= _) _ _ s
  refine wpAny_bind (wpAny_setField ei di (by simp) ?_)
  show wpAny _ _ (newExc (.type "StopIteration") [] >>= _) _ _ _
  simp only [newExc, newTuple]
  refine wpAny_bind (wpAny_bind (wpAny_newObj_type (wpAny_bind (m := firstArgMember _ _) (wpAny_of_eq (a := Value.none) (by first | rfl | (simp only [firstArgMember]; rfl)) (wpAny_newObj_type ?_ (by size_fits)))) (by size_fits)))
  simp only [raiseNew]
  refine wpAny_bind (wpAny_handled ?_)
  rw [show A.in1.handled = none from hh]
  refine wpAny_bind (wpAny_pure (wpAny_throw ?_))
  refine wpAny_bind (wpAny_isInstance (b := true) (T := "StopIteration") ⟨_, Heap.get?_push_size _ rfl, rfl⟩ isSubtype_stop ?_)
  exact wpAny_pure (q _ (((Heap.SameBut.update ..).extBut.push _).push _))
end
theorem RawD.at {h h2 : Heap} {d : Addr} {tb : Array DictEntry} {ep : Nat} (x : RawD h d tb ep) (e : ∀ o, h.get? d = some o → h2.get? d = some o) : RawD h2 d tb ep := let ⟨o, ho, r⟩ := x; ⟨o, e _ ho, r⟩
theorem RawD.lt {h : Heap} {d : Addr} {tb : Array DictEntry} {ep : Nat} (x : RawD h d tb ep) : d < h.objs.size := let ⟨_, ho, _⟩ := x; Heap.lt_size ho
section
variable {prog : Program} {w : World}
theorem zom {A : Around} (hh : A.handled = none) (I d : Addr) (hne : d ≠ I) (tb : Array DictEntry) (ep : Nat) :
    Walks prog w A I [I, d] [I] tb.size (fun i v => ∃ e, tb[i]? = some e ∧ v = e.key) (fun i h => h.IsKeyIter I d i tb.size ep ∧ RawD h d tb ep) where
  sub := fun b hb => by rw [List.mem_singleton] at hb; rw [hb]; exact List.mem_cons_self
  frame := fun _ _ _ st hk => ⟨st.1.at fun o e => hk I List.mem_cons_self o e, st.2.at fun o e => hk d (List.mem_cons_of_mem _ List.mem_cons_self) o e⟩
  item := fun i s Q E lt st q => zp7 st.1 st.2 lt fun h2 hi2 sb =>
    q _ h2 s.toks ⟨tb[i], Array.getElem?_eq_getElem lt, rfl⟩ ⟨hi2, st.2.at fun o e => sb.extBut d o hne e⟩ fun b o hb e => sb.extBut b o (fun z => hb (by rw [z]; exact List.mem_cons_self)) e
  done := fun s Q E st q => zsx hh st.1 st.2 fun h2 eb => q h2 s.toks fun b o hb e => eb b o (fun z => hb (by rw [z]; exact List.mem_cons_self)) e
  self := fun _ _ _ _ st q => wpAny_pyIter_keyiter st.1 q
theorem zp8 {A : Around} {E : Value → Shared → Prop} {s : Shared} {v d : Addr} {tb : Array DictEntry} {ep : Nat} {Q : Value → Shared → Prop} (hv : KdlKeysView s.heap v d) (hr : RawD s.heap d tb ep)
    (q : Q (.ref s.heap.objs.size) { s with heap := s.heap.push { cls := .type "dict_keyiterator", data := .fields #[.ref d, .int 0 0, .int tb.size 0, .int ep 0] } }) : wpAny (model prog w) A (pyIter (.ref v)) Q E s := by
  obtain ⟨ov, e1, c1, d1⟩ := id hv
  obtain ⟨ot, et, ct, dt⟩ := id hr
  refine wpAny_pyIter_slot hv.typeIs kdl_slot_keys_iter (wpAny_call_entry kdl_slot_keys_iter hv.typeIs kdl_entry_keys_iter ?_ (kdl_args_keys_iter _))
  unfold Builtin.«dict_keys.__iter__»
  refine wpAny_bind (wpAny_pure (wpAny_bind ?_))
  unfold Builtin.Dict_items.dictOf
  refine wpAny_bind (wpAny_field e1 d1 (x := .ref d) rfl (wpAny_pure (wpAny_bind ?_)))
  unfold Builtin.Dict_items.newIterator
  refine wpAny_bind (wpAny_dictEntries et dt (wpAny_bind (wpAny_dictEpoch et dt ?_)))
  have own : Builtin.Dict_items.ownsTuple "dict_keyiterator" = false := rfl
  simp only [own, Bool.false_eq_true, if_false]
  exact wpAny_newObj_type (wpAny_pure ⟨_, rfl, "dict_keyiterator", _, ⟨_, Heap.get?_push_size _ rfl, rfl⟩, PySem.F.slot_dict_keyiterator_next.lookup, q⟩)
theorem zsy {r d : Addr} {tb : Array DictEntry} {ep : Nat} : KdlSrc prog w "dict_keys" r d tb.size (fun i v => ∃ e, tb[i]? = some e ∧ v = e.key) (fun h => KdlKeysView h r d ∧ RawD h d tb ep) where
  type := fun _ x => x.1.typeIs
  there := fun _ x => ⟨let ⟨_, ho, _⟩ := x.1; Heap.lt_size ho, x.2.lt⟩
  keep := fun _ _ x hk => ⟨let ⟨o, ho, y⟩ := x.1; ⟨o, hk r (.inl rfl) o ho, y⟩, x.2.at fun o e => hk d (.inr rfl) o e⟩
  notList := rfl
  notTuple := rfl
  hint := fun _ _ _ _ x q => kdl_hint_keys x.1.typeIs q
  iter := fun _ _ hh x => ⟨_, _, fun _ _ q => zp8 x.1 x.2 q, zom hh _ d (Nat.ne_of_lt x.2.lt) tb ep, ⟨_, Heap.get?_push_size _ rfl, rfl, rfl⟩, x.2.at fun o e => Heap.get?_push_of_some _ e⟩
end
end L2.LW
set_option maxHeartbeats 4000000
namespace L2.LW
open PySem PySem.Spec PySem.W PySem.Calls PyProof.Rows
theorem zcS {h h' : Heap} (hk : ∀ b o, h.get? b = some o → h'.get? b = some o) {v : Value} {k : List Int} : zkA h v k → zkA h' v k := fun ⟨a, o, i, n, h1, h2, h3⟩ => ⟨a, o, i, n, h1, hk _ _ h2, h3⟩
theorem zmz {prog : Program} {w : World} {A : Around} {s : Shared} {its : List Value} {ks : List (List Int)} (hT : Paired (zkA s.heap) its ks) (hnd : ks.Nodup) (hne' : ∀ k ∈ ks, k ≠ []) :
    ∃ r : Nat → Int, (∀ i j, i < its.length → j < its.length → i ≠ j → r i ≠ r j) ∧
      (2 ≤ its.length → ∀ h' tk, (∀ b o, s.heap.get? b = some o → h'.get? b = some o) → wpAny (model prog w) A (keyKind' its.toArray) (fun κ' s' => κ' = tuples' (Value.type "int" != Value.type "tuple") ∧ ∃ tk', s' = { s with heap := h', toks := tk' }) (fun _ _ => False) { s with heap := h', toks := tk }) ∧
      (∀ i j h' tk (C : Bool → Shared → Prop), i < its.length → j < its.length → (∀ b o, s.heap.get? b = some o → h'.get? b = some o) → (∀ tk', C (decide (r i < r j)) { s with heap := h', toks := tk' }) →
        wpAny (model prog w) A (keyLt' (tuples' (Value.type "int" != Value.type "tuple")) (its.getD i Value.none) (its.getD j Value.none)) C (fun _ _ => False) { s with heap := h', toks := tk }) ∧
      ∀ pm, Pm its.length r pm → Up r pm its.length → (pm.toList.map fun i => ks.getD i []) = zgD ks ∧ ∀ i ∈ pm.toList, i < its.length := by
  have hlen : its.length = ks.length := Paired.length hT
  let r : Nat → Int := fun i => rkT ks (ks.getD i [])
  have memk : ∀ i, i < its.length → ks.getD i [] ∈ ks := fun i hi => by
    rw [za2 (x := ks[i]'(by omega)) (by simp)]; exact List.getElem_mem _
  have injk : ∀ i j, i < its.length → j < its.length → i ≠ j → ks.getD i [] ≠ ks.getD j [] := fun i j hi hj ne e => by
    rw [za2 (x := ks[i]'(by omega)) (by simp), za2 (x := ks[j]'(by omega)) (by simp)] at e
    exact ne ((List.getElem_inj hnd).mp e)
  refine ⟨r, fun i j hi hj ne e => ?_, fun h2 h' tk hk => ?_, fun i j h' tk C hi hj hk qC => ?_, fun pm hpm hup => ?_⟩
  · rcases zdh (injk i j hi hj ne) with z | z
    · have := zg8 (memk i hi) z
      have e : rkT ks (ks.getD i []) = rkT ks (ks.getD j []) := e
      omega
    · have := zg8 (memk j hj) z
      have e : rkT ks (ks.getD i []) = rkT ks (ks.getD j []) := e
      omega
  · obtain ⟨fs, f1, f2, f3⟩ := zeN (Paired.imp' (fun v k z => zcS hk z) hT) hne'
    exact kat_kind (s := { s with heap := h', toks := tk }) f1 (by omega) (fun v hv => by obtain ⟨i, t, rfl⟩ := f3 v hv; exact Looks.of_pure rfl) (by simp) ⟨rfl, tk, rfl⟩
  · obtain ⟨x1, k1, a1, a2, a3⟩ := zdi hT hi
    obtain ⟨x2, k2, b1, b2, b3⟩ := zdi hT hj
    rw [za2 a1, za2 b1]
    obtain ⟨a, o, i1, n, rfl, c1, c2, c3, c4⟩ := zcS hk a3
    obtain ⟨b, o', i2, n', rfl, d1, d2, d3, d4⟩ := zcS hk b3
    have er : decide (r i < r j) = LW.lexLt k1 k2 := by
      show decide (rkT ks (ks.getD i []) < rkT ks (ks.getD j [])) = _
      by_cases e : i = j
      · subst e
        rw [a2] at b2; cases b2
        rw [zbv]; simp
      · have := zhQ (memk i hi) (memk j hj) (injk i j hi hj e)
        rw [za2 a2, za2 b2] at this
        rw [za2 a2, za2 b2]
        exact this
    rw [er] at qC
    refine kat_lt (s := { s with heap := h', toks := tk }) c1 c3 d1 d3 ?_
    exact zdW 0 c4 d4 (by simp) (qC tk)
  · have hlt : ∀ i ∈ pm.toList, i < its.length := fun i hi => by
      have := (Array.perm_iff_toList_perm.mp hpm.perm).mem_iff.mp hi
      simpa using this
    have hperm : (pm.toList.map fun i => ks.getD i []).Perm ks := by
      have h1 := (Array.perm_iff_toList_perm.mp hpm.perm).map fun i => ks.getD i []
      refine h1.trans (List.Perm.of_eq ?_)
      apply List.ext_getElem
      · simp [hlen]
      · intro i h1 h2; simp at h1; simp [h1, h2]
    have hupk : (pm.toList.map fun i => ks.getD i []).Pairwise zm9 := by
      rw [List.pairwise_iff_getElem]
      intro i j hi hj hij
      rw [List.length_map, Array.length_toList, hpm.size] at hi hj
      have h1 := hup i j hij (by omega)
      have li := hpm.lt i hi
      have lj := hpm.lt j hj
      simp only [List.getElem_map, Array.getElem_toList]
      have gi : pm.getD i 0 = pm[i]'(by rw [hpm.size]; exact hi) := by simp [Array.getD, hpm.size, hi]
      have gj : pm.getD j 0 = pm[j]'(by rw [hpm.size]; exact hj) := by simp [Array.getD, hpm.size, hj]
      unfold kk at h1
      rw [gi] at h1 li
      rw [gj] at h1 lj
      have hne : pm[i]'(by rw [hpm.size]; exact hi) ≠ pm[j]'(by rw [hpm.size]; exact hj) := fun z => by rw [z] at h1; omega
      have := zhQ (memk _ li) (memk _ lj) (injk _ _ li lj hne)
      show LW.lexLt _ _ = true
      rw [← this, decide_eq_true_iff]
      exact h1
    exact ⟨zkz (hperm.trans (zcC ks).symm) hupk (zfB hnd), hlt⟩
noncomputable def kvO (p d : Addr) : HO := .ext fun h => KdlKeysView h p d
section
variable {X : Cx}
theorem zsz : MtR X "dict.keys" (fun x xs H Q => ∃ a kvs, x = .ref a ∧ xs = [] ∧ H a = some (.dT kvs) ∧ ∀ p, H p = Option.none → Q (.ref p) (upd H p (kvO p a))) := by
  rintro pins s σ H x xs v us Q I rx rs ⟨a, kvs, rfl, rfl, e, q⟩
  cases rx
  cases rs
  obtain ⟨_, hd, zs, _, dd⟩ := znt I.hok e
  refine wpAny_call_entry PySem.F.slot_dict_keys dd.typeIs PySem.F.entry_dict_keys ?_ (PySem.F.args_dict_keys_1 _)
  unfold Builtin.«dict.keys»
  refine wpAny_bind ?_
  unfold Builtin.Dict.noArgs
  refine wpAny_bind (wpAny_notOrdered_dict dd.typeIs ?_)
  show wpAny _ _ (pure a) _ _ s
  refine wpAny_pure ?_
  show wpAny _ _ (Builtin.Dict.showsAll a >>= _) _ _ s
  unfold Builtin.Dict.showsAll
  rw [if_neg (by rw [hd]; exact Bool.false_ne_true)]
  refine wpAny_bind (wpAny_pure (wpAny_bind (wpAny_newObj_type (wpAny_pure ⟨_, rfl, ?_⟩))))
  have hv : KdlKeysView (s.heap.push { cls := .type "dict_keys", data := .fields #[.ref a] }) s.heap.objs.size a := ⟨_, Heap.get?_push_size _ rfl, rfl, rfl⟩
  exact ⟨.ref s.heap.objs.size, _, I.laid (a := s.heap.objs.size) (o := kvO s.heap.objs.size a) (t' := s.toks) (fun _ _ q => Heap.get?_push_of_some _ q) (Nat.le_refl _)
    ⟨hv, ⟨_, Heap.get?_push_size _ rfl⟩, fun h1 h2 ⟨o, z1, z2⟩ k => ⟨o, k o z1, z2⟩⟩, rfl, q _ (I.hok.fresh (Nat.le_refl _))⟩
theorem zja {K : PySem.W.Frag} {W : Addr → Prop} {H : Hp} : ∀ l : List Int, Reps K W H (l.map D.int) (l.map V.int)
  | [] => .nil
  | i :: r => .cons (.int i) (zja r)
theorem zjb {K : PySem.W.Frag} {W : Addr → Prop} {H : Hp} : ∀ {ns : List (List Int)} {ys : List V} {zs : List (List Key × Addr × Value)}, ns.length = ys.length →
    Paired (fun (p : List Key × V) (q : List Key × Addr × Value) => p.1 = q.1 ∧ H q.2.1 = some (.tup (p.1.map kV)) ∧ RelV p.2 q.2.2) (zd8 ns ys) zs →
    Reps K W H (ns.map kT) (zs.map fun x => V.ref x.2.1) ∧ Vals (zs.map fun x => V.ref x.2.1) (zs.map fun x => Value.ref x.2.1) ∧ zs.length = ns.length
  | [], [], _, _, .nil => ⟨.nil, .nil, rfl⟩
  | n :: ns, y :: ys, _, hl, .cons h t => by
    obtain ⟨h1, h2, h3⟩ := zjb (ns := ns) (ys := ys) (by simpa using hl) t
    refine ⟨.cons (.tup (xs := n.map V.int) ?_ (zja n)) h1, .cons rfl h2, by simp [h3]⟩
    have := h.2.1
    rw [zeK] at this
    exact this
theorem zp9 (hc : X.calm = true) : zcz X (.builtin "sorted") (fun xs H Q => ∃ p a, xs = [.ref p] ∧ H p = some (kvO p a) ∧ VR X.K (zal .skeys) [.ref a] H Q) := by
  rintro pins s σ H xs us Q I rv ⟨p, a, rfl, hp, W, ds, r, wf, hs, hf, q⟩
  obtain ⟨d, rfl, h1⟩ := pr1 hs
  replace hf : ziQ [d] = some r := hf
  unfold ziQ at hf
  split at hf
  case h_2 => cases hf
  rename_i ks vs z
  cases z
  obtain ⟨a', ns, ys, e, rfl, hH, hl, _⟩ := h1.dT
  cases e
  obtain ⟨u, rfl, ru⟩ := zfI rv
  cases ru
  have hks : tups? (ns.map kT) = some ns := by
    clear hf hs h1 hl hH
    induction ns with
    | nil => rfl
    | cons n r ih =>
      have : ∀ l : List Int, ints? (l.map D.int) = some l := fun l => by induction l with
        | nil => rfl
        | cons x l ih => simp [ints?, ih]
      simp [tups?, kT, this, ih]
  unfold zfN at hf
  rw [hks] at hf
  simp only [Option.bind_some] at hf
  split at hf
  case isFalse => cases hf
  rename_i hcond
  cases hf
  obtain ⟨h64, hnd, hne⟩ := hcond
  have hne' : ∀ k ∈ ns, k ≠ [] := fun k hk e => by
    have := List.all_eq_true.mp hne k hk
    rw [e] at this; cases this
  obtain ⟨_, hd, zs, rel, o, es, ep, g1, g2, g3, g4, g5⟩ := (show ObjOk X.prog X.w H s.heap a (.dT (zd8 ns ys)) from I.hok a _ hH)
  have hview : KdlKeysView s.heap p a := (show ObjOk X.prog X.w H s.heap p (kvO p a) from I.hok p _ hp).1
  obtain ⟨rp, rv', zl⟩ := zjb (K := X.K) (W := W) hl rel
  have hT := zkB I rp rv' hks
  obtain ⟨r, f1, f2, f3, f4⟩ := zmz (prog := X.prog) (w := X.w) (A := X.A.in1.in1) hT hnd hne'
  have il : (zs.map fun x => Value.ref x.2.1).length = ns.length := by rw [List.length_map, zl]
  have esz : es.size = ns.length := by rw [← Array.length_toList, g4, List.length_map, zl]
  refine Calls.call_function_entry kind_sorted plain_sorted entry_sorted (args_sorted1 _) ?_
  unfold Builtin.«sorted»
  refine wpAny_bind (m := checkCount "sorted" 1 1 _) (wpAny_pure ?_)
  refine wpAny_bind (kdu_collect (A := X.A.in1) zsy (I.ok.hd hc) ⟨hview, o, g1, g2, g3⟩ (by rw [sizeLine_eq]; omega) fun h2 tk acc hk hacc => ?_)
  have ea : acc.toList = zs.map fun x => Value.ref x.2.1 := by
    apply List.ext_getElem?
    intro j
    have sz : acc.size = es.size := hacc.1
    by_cases hj : j < acc.size
    · have h3 : acc.toList[j]? = some acc[j] := by simp [hj]
      obtain ⟨e, e1, e2⟩ := hacc.2 j acc[j] (by simp [hj])
      rw [h3, e2]
      rw [← Array.getElem?_toList, g4, List.getElem?_map, jo2] at e1
      obtain ⟨x, e3, e4⟩ := e1
      rw [List.getElem?_map, e3, ← e4]; rfl
    · rw [List.getElem?_eq_none (by simpa using hj), List.getElem?_eq_none (by rw [il]; omega)]
  rw [ea]
  refine wpAny_bind (wpAny_newList ?_ (by rw [il, sizeLine_eq]; omega))
  generalize hits : (zs.map fun x => Value.ref x.2.1) = its at *
  have hoL : (h2.push (seqObj "list" its.toArray 0)).get? h2.objs.size = some (seqObj "list" its.toArray 0) := Heap.get?_push_size _ rfl
  have keep : ∀ b q, s.heap.get? b = some q → (h2.push (seqObj "list" its.toArray 0)).get? b = some q := fun b q e => Heap.get?_push_of_some _ (hk b q e)
  have nea : ∀ b q, s.heap.get? b = some q → b ≠ h2.objs.size := fun b q e => Nat.ne_of_lt (Heap.lt_size (hk b q e))
  have I2 := I.kept (t' := tk) hk
  show wpAny _ _ _ _ _ { s with heap := h2.push (seqObj "list" its.toArray 0), toks := tk }
  refine wpAny_bind (wpAny_holding (wpAny_call_entry slot_list_sort ⟨_, hoL, rfl⟩ entry_list_sort (zi6 (s := { s with heap := h2.push (seqObj "list" its.toArray 0), toks := tk }) (κ := tuples' (Value.type "int" != Value.type "tuple")) (r := r) hoL (by omega) f1 (fun z2 h' tk hk' => ?_) (fun i j h' tk C hi hj hk' q => ?_) fun pm tk hp hu => ⟨_, rfl, ?_⟩) (args_list_sort _)))
  · exact f2 z2 h' tk fun b o e => hk' b o (nea b o e) (keep b o e)
  · exact f3 i j h' tk C hi hj (fun b o e => hk' b o (nea b o e) (keep b o e)) q
  · obtain ⟨heq, hlt⟩ := f4 pm hp hu
    refine wpAny_pure ⟨_, rfl, ?_⟩
    obtain ⟨e, he⟩ := sortedHeap_at (out := (pm.toList.map fun i => its.getD i Value.none).toArray) hoL
    have fr : H h2.objs.size = Option.none := I2.hok.fresh (Nat.le_refl _)
    have hds : (pm.toList.map fun i => (ns.map kT).getD i .non) = (zgD ns).map kT := by
      rw [← heq, List.map_map]
      apply List.map_congr_left
      intro i hi
      have hi' := hlt i hi
      show (ns.map kT).getD i .non = kT (ns.getD i [])
      rw [za2 (x := kT (ns[i]'(by omega))) (by simp [show i < ns.length by omega]), za2 (x := ns[i]'(by omega)) (by simp)]
    have hrep := zi8 rp pm.toList fun i hi => by have := hlt i hi; simp; omega
    rw [hds] at hrep
    have hvals := zi7 rv' pm.toList fun i hi => hlt i hi
    have rn := zeJ fr hrep
    refine ⟨.ref h2.objs.size, _, I2.laid (a := h2.objs.size) (h' := sortedHeap (h2.push (seqObj "list" its.toArray 0)) h2.objs.size its (pm.toList.map fun i => its.getD i Value.none).toArray) (o := .lst (pm.toList.map fun i => (zs.map fun x => V.ref x.2.1).getD i .non)) (t' := tk) (fun b o q => ?_) (Nat.le_refl _) ⟨?_, _, e, hvals, ?_⟩, rfl, q _ _ (zaP fr _) rn⟩
    · have lt : b < h2.objs.size := Heap.lt_size q
      have q' := Heap.get?_push_of_some (seqObj "list" its.toArray 0) q
      rw [sortedHeap_old (Nat.ne_of_lt lt) (Heap.lt_size q')]; exact q'
    · rw [List.length_map, Array.length_toList, hp.size]; exact Nat.le_of_lt (zc9 (by omega))
    · simpa [seqObj] using he
end
end L2.LW
set_option maxHeartbeats 4000000
namespace L2.LW
open PySem PySem.Spec PySem.W PySem.Calls PyProof.Rows
section
variable {X : Cx} {fn : Nat → List D → Option SV} {fa : Nat → List D → Option Ans} {fuel : Nat} {a b c e : Expr} {ca cb cc ce : E} {pos p : Pos} {x : Str}
theorem zsA {apos cpos : Pos} (hc : X.calm = true) (hg : Gl X "sorted") (hm : X.mg "sorted" = Option.none) (ha : IE X fn a ca)
    (hst : starEach [Expr.Call (.Attribute a "keys" apos) [] [] cpos] X.env = (false, eval (Expr.Call (.Attribute a "keys" apos) [] [] cpos) X.env) :: starEach [] X.env := by rfl)
    (hbase : attributeBase a "keys" X.env (eval a X.env) = eval a X.env := by rfl) (hline : (apos.endLine == cpos.line) = true := by rfl) :
    IE X fn (.Call (.Name "sorted" p) [.Call (.Attribute a "keys" apos) [] [] cpos] [] pos) (.prim .skeys (.cons ca .nil)) :=
  .mk <| (zhq (zp9 hc) hg hm PyProof.Rows.boot_sorted (zcr (ztY PySem.F.plainAttrs_dict PySem.F.slot_dict_keys PySem.F.type_dict_keys zsz ha.v hbase hline) zgX hst) (by decide) (by decide) hst zaj).imp fun σ H Q zz3 => by
    obtain ⟨W, ρ, r, hR, he, q⟩ := zz3
    simp only [zcs, zch, zbB, jo1, jo2] at he
    obtain ⟨rs, ⟨r1, e1, rs', e3, rfl⟩, e4⟩ := he
    cases e3
    refine ⟨W, ρ, r1, hR, e1, fun v1 H1 s1 f1 => ?_⟩
    have hsee := zhB (.cons f1 .nil)
    have e5 : ziQ [zbM r1] = some r := e4
    unfold ziQ at e5
    split at e5
    case h_2 => cases e5
    rename_i ks vs z
    have z1 : zbM r1 = .dct true ks vs := by simpa using z
    obtain ⟨d0, ed, hs⟩ := pr1 hsee
    simp at ed
    subst ed
    rw [z1] at hs
    obtain ⟨a0, ns, ys, rfl, rfl, hH, hl, _⟩ := hs.dT
    refine ⟨.inr (.inr (.inl ⟨rfl, .inr ⟨_, hH⟩⟩)), a0, _, rfl, rfl, hH, fun p0 hp0 => ?_⟩
    exact ⟨p0, a0, rfl, za9, zhE hR (s1.trans (zaP hp0 _)) (.cons (f1.same (zaP hp0 _)) .nil) e4 q⟩
end
end L2.LW
set_option maxHeartbeats 4000000
namespace L2.LW
open PySem PySem.Spec PySem.W PySem.Calls PyProof.Rows
noncomputable def zgz (i : Nat) : Int := reduceHash (Builtin.Tuple.tupleHashOf [hashInt ((i / 8 : Nat) : Int), hashInt ((i % 8 : Nat) : Int)])
theorem zmA : ((List.range 64).map zgz).Nodup := by decide +kernel
theorem zon {P : Program} {w : World} {a b : Int} (h : 0 ≤ a ∧ a ≤ 7 ∧ 0 ≤ b ∧ b ≤ 7) : (a * 8 + b).toNat < 64 ∧ tupleKeyHash (zay P w) [Sum.inl a, Sum.inl b] = zgz (a * 8 + b).toNat := by
  refine ⟨by omega, ?_⟩
  unfold zgz
  rw [show (((a * 8 + b).toNat / 8 : Nat) : Int) = a by omega, show (((a * 8 + b).toNat % 8 : Nat) : Int) = b by omega]
  rfl
noncomputable def zdX (k : List Key) : Prop := ∃ a b : Int, k = [Sum.inl a, Sum.inl b] ∧ 0 ≤ a ∧ a ≤ 7 ∧ 0 ≤ b ∧ b ≤ 7
theorem zqa {P : Program} {w : World} {k k' : List Key} (h : zdX k) (h' : zdX k') (e : tupleKeyHash (zay P w) k = tupleKeyHash (zay P w) k') : k = k' := by
  obtain ⟨a, b, rfl, r⟩ := h
  obtain ⟨c, d, rfl, r'⟩ := h'
  obtain ⟨l1, e1⟩ := zon (P := P) (w := w) r
  obtain ⟨l2, e2⟩ := zon (P := P) (w := w) r'
  rw [e1, e2] at e
  have e3 : ((List.range 64).map zgz)[(a * 8 + b).toNat]'(by rw [List.length_map, List.length_range]; exact l1) = ((List.range 64).map zgz)[(c * 8 + d).toNat]'(by rw [List.length_map, List.length_range]; exact l2) := by simpa using e
  have := (List.getElem_inj zmA).mp e3
  have ea : a = c := by omega
  have eb : b = d := by omega
  rw [ea, eb]
section
variable {prog : Program} {w : World} {K : Type} [DecidableEq K] {knd : HeapKind prog w K} {A : Around} {E : Value → Shared → Prop} {s : Shared}
theorem zuD {d a : Addr} {xs : List (K × Addr × Value)} {k : K} {v : Value} {Q : Unit → Shared → Prop} (hu : knd.room A) (hkey : knd.is s.heap k a) (hm : s.heap.DictOfH knd d xs) (hsz : xs.length ≤ sizeLine)
    (q : ∀ h2, h2.DictOfH knd d (storedH xs k a v) → Heap.SameBut d s.heap h2 → Q () { s with heap := h2 }) : wpAny (model prog w) A (dictSetHashed d (.ref a) (knd.hash k) v) Q E s := by
  obtain ⟨ob, tb, ep, e1, ex, e2, e3, al, nd⟩ := hm
  have lz := size_of_entries e3
  unfold dictSetHashed
  try with_reducible refine wpAny_holding ?_
  refine wpAny_bind (wpAny_dictFind_heap hu hkey e1 e2 e3 al nd (fun no => ?_) fun j p hj => ?_)
  · have ak := atKey_none_of_get no
    have nm := not_mem_keys_of_get no
    refine wpAny_bind (wpAny_rule (wpAny_updateDictKeys (hz := by omega) e1 e2 (q _ ?_ (Heap.SameBut.update ..))))
    rw [storedH_new ak]
    refine ⟨_, _, ep + 1, Heap.get?_update_self _ e1 (Obj.isFreed_of_dict (Obj.data_mapDictKeys e2 _)), ex.mapDictKeys _, Obj.data_mapDictKeys e2 _, by simp [e3, entryOfKey], fun z hz => ?_, ?_⟩
    · rcases List.mem_append.mp hz with hz | hz
      · exact knd.keeps (al z hz) e1 e2 (Heap.SameBut.update ..)
      · rw [List.mem_singleton] at hz
        rw [hz]
        exact knd.keeps hkey e1 e2 (Heap.SameBut.update ..)
    · rw [List.map_append, List.nodup_append]
      exact ⟨nd, by simp, fun y hy z hz e => nm (by simp at hz; rw [← hz, ← e]; exact hy)⟩
  · have ak := atKey_of_get nd hj
    refine wpAny_bind (wpAny_rule (wpAny_bind (wpAny_updateDict e1 e2 (wpAny_point (q _ ?_ (Heap.SameBut.update ..))))))
    rw [storedH_old ak]
    refine ⟨_, _, ep, Heap.get?_update_self _ e1 (Obj.isFreed_of_dict (Obj.data_mapDict e2 _)), ex.mapDict _, Obj.data_mapDict e2 _, ?_, fun z hz => ?_, ?_⟩
    · have mm := modify_map_putAt (entryOfKey knd) (fun t : DictEntry => { t with val := v }) k v (fun _ _ => rfl) nd hj
      rw [← e3] at mm
      obtain ⟨l⟩ := tb
      simpa using mm
    · obtain ⟨y, hy, rfl⟩ := List.mem_map.mp hz
      unfold putAt
      split <;> exact knd.keeps (al y hy) e1 e2 (Heap.SameBut.update ..)
    · rw [keys_map_putAt]; exact nd
noncomputable def zbs (xs zs : List (K × Addr × Value)) : List (K × Addr × Value) := zs.foldl (fun acc z => storedH acc z.1 z.2.1 z.2.2) xs
theorem zkC (xs : List (K × Addr × Value)) (k : K) (a : Addr) (v : Value) : (storedH xs k a v).length ≤ xs.length + 1 := by
  unfold storedH; split <;> simp
theorem zdY (xs : List (K × Addr × Value)) : ∀ zs : List (K × Addr × Value), (zbs xs zs).length ≤ xs.length + zs.length := fun zs => by
  induction zs generalizing xs with
  | nil => simp [zbs]
  | cons z r ih =>
    have h1 := ih (storedH xs z.1 z.2.1 z.2.2)
    have h2 := zkC xs z.1 z.2.1 z.2.2
    show (zbs (storedH xs z.1 z.2.1 z.2.2) r).length ≤ _
    simp; omega
theorem zfX : ∀ (zs xs : List (K × Addr × Value)), ((xs ++ zs).map (·.1)).Nodup → zbs xs zs = xs ++ zs
  | [], xs, _ => by simp [zbs]
  | z :: r, xs, h => by
    have ak : atKey xs z.1 = none := atKey_none_of_get fun j p hj => by
      rw [List.map_append, List.map_cons, List.nodup_append] at h
      exact h.2.2 z.1 (List.mem_map.mpr ⟨(z.1, p), List.mem_of_getElem? hj, rfl⟩) z.1 List.mem_cons_self rfl
    show zbs (storedH xs z.1 z.2.1 z.2.2) r = _
    rw [storedH_new ak, zfX r _ (by simpa using h)]
    simp
theorem ze2 (xs zs : List (K × Addr × Value)) (i : Nat) (z : K × Addr × Value) (h : zs[i]? = some z) : zbs xs (zs.take (i + 1)) = storedH (zbs xs (zs.take i)) z.1 z.2.1 z.2.2 := by
  simp [zbs, List.take_add_one, h, List.foldl_append]
end
section
variable {P : Program} {w : World} {A : Around} {E : Value → Shared → Prop} {s : Shared}
theorem zsB {id : String} {d : Addr} {ob : Obj} {tb : Array DictEntry} {ep : Nat} {zs : List (List Key × Addr × Value)} {Q : Array DictEntry → Shared → Prop} (e1 : s.heap.get? d = some ob) (e2 : ob.data = .dict tb ep) (e3 : tb.toList = zs.map (entryOfKey (tupleKind (zay P w))))
    (al : ∀ z ∈ zs, (tupleKind (zay P w)).is s.heap z.1 z.2.1) (nd : (zs.map (·.1)).Nodup) (sm : ∀ z ∈ zs, zdX z.1) (q : Q tb s) : wpAny (model P w) A (Builtin.Dict.entriesForEmpty id d) Q E s := by
  unfold Builtin.Dict.entriesForEmpty
  refine wpAny_bind (wpAny_dictEntries e1 e2 (wpAny_bind ?_))
  rw [← Array.forIn_toList]
  refine wpAny_forIn_list _ (fun zcO _ s' => s' = s ∧ ∀ t ∈ zcO, t ∈ tb.toList) _ (fun t zcO b s' ⟨hs, hall⟩ => ?_) (fun b s' ⟨hs, _⟩ => ?_) _ _ ⟨rfl, fun t ht => ht⟩
  · subst hs
    have ht := hall t List.mem_cons_self
    have ht2 := ht
    rw [e3] at ht2
    obtain ⟨z, hz, rfl⟩ := List.mem_map.mp ht2
    have tq := al z hz
    have nxt : (s' = s' ∧ ∀ t ∈ zcO, t ∈ tb.toList) := ⟨rfl, fun y hy => hall y (List.mem_cons_of_mem _ hy)⟩
    refine wpAny_bind ?_
    show wpAny _ _ (Builtin.Dict.quietEq (.ref z.2.1)) _ _ _
    unfold Builtin.Dict.quietEq
    refine wpAny_bind (wpAny_specialOf (IsTupleKey.typeIs tq) PySem.F.slot_tuple_eq.lookup (wpAny_pure ?_))
    have one : ¬ (tb.filter fun y => y.hash == (entryOfKey (tupleKind (zay P w)) z).hash).size > 1 := by
      intro big
      have : (tb.toList.filter fun y => y.hash == (entryOfKey (tupleKind (zay P w)) z).hash).length > 1 := by
        have := big
        rw [← Array.length_toList, Array.toList_filter] at this
        exact this
      rw [e3, List.filter_map, List.length_map] at this
      have nd2 : zs.Nodup := (List.pairwise_map.mp nd).imp fun h e => h (by rw [e])
      have le : (zs.filter ((fun y => y.hash == (entryOfKey (tupleKind (zay P w)) z).hash) ∘ entryOfKey (tupleKind (zay P w)))).length ≤ [z].length := by
        have key : ∀ y ∈ zs.filter ((fun y => y.hash == (entryOfKey (tupleKind (zay P w)) z).hash) ∘ entryOfKey (tupleKind (zay P w))), y = z := fun y hy => by
          rw [List.mem_filter] at hy
          obtain ⟨hy1, hy2⟩ := hy
          have eh : tupleKeyHash (zay P w) y.1 = tupleKeyHash (zay P w) z.1 := by simpa [entryOfKey, tupleKind] using hy2
          have ek := zqa (sm y hy1) (sm z hz) eh
          obtain ⟨i, hi, rfl⟩ := List.getElem_of_mem hy1
          obtain ⟨j, hj, rfl⟩ := List.getElem_of_mem hz
          have : i = j := (List.getElem_inj nd (h₀ := by simpa using hi) (h₁ := by simpa using hj)).mp (by simpa using ek)
          subst this; rfl
        have nf := nd2.filter ((fun y => y.hash == (entryOfKey (tupleKind (zay P w)) z).hash) ∘ entryOfKey (tupleKind (zay P w)))
        generalize zs.filter ((fun y => y.hash == (entryOfKey (tupleKind (zay P w)) z).hash) ∘ entryOfKey (tupleKind (zay P w))) = L at key nf
        match L, nf, key with
        | [], _, _ => simp
        | [_], _, _ => simp
        | x :: y :: r, nf, key =>
          have h1 := key x (by simp)
          have h2 := key y (by simp)
          rw [h1, h2] at nf
          simp at nf
      simp at le
      omega
    have ne : ((some (Value.builtin "tuple.__eq__") == some (Value.builtin "object.__eq__")) = false) := by decide
    rw [ne]
    simp only [Bool.not_false, if_true]
    rw [if_neg one]
    exact wpAny_pure nxt
  · subst hs
    exact wpAny_pure q
theorem zuE {nm : String} {d o : Addr} {xs zs : List (List Key × Addr × Value)} {Q : Unit → Shared → Prop} (hu : A.units < cLine) (ne : d ≠ o) (hoS : (o == sysModules) = false)
    (hd : s.heap.DictOfH (tupleKind (zay P w)) d xs) (ho : s.heap.DictOfH (tupleKind (zay P w)) o zs) (sm : ∀ z ∈ zs, zdX z.1) (hsz : xs.length + zs.length < sizeLine)
    (q : ∀ h2, h2.DictOfH (tupleKind (zay P w)) d (zbs xs zs) → Heap.SameBut d s.heap h2 → Q () { s with heap := h2 }) : wpAny (model P w) A (Builtin.Dict.mergeDict nm d o) Q E s := by
  obtain ⟨od, td, pd, d1, d2, d3, d4, d5, d6⟩ := id hd
  obtain ⟨oo, to, po, o1, o2, o3, o4, o5, o6⟩ := id ho
  have lz := size_of_entries o4
  have lx := size_of_entries d4
  unfold Builtin.Dict.mergeDict
  rw [if_neg (by simpa using ne)]
  unfold Builtin.Dict.showsAll
  rw [if_neg (by rw [hoS]; exact Bool.false_ne_true)]
  refine wpAny_bind (wpAny_pure (wpAny_bind (wpAny_dictEntries o1 o3 ?_)))
  dsimp only
  split
  · refine wpAny_bind (wpAny_dictEntries d1 d3 ?_)
    split
    · rename_i em
      have x0 : xs = [] := List.length_eq_zero_iff.mp (by rw [← lx, Array.isEmpty_iff.mp em]; rfl)
      subst x0
      refine wpAny_bind (zsB o1 o3 o4 o5 o6 sm ?_)
      split
      · refine wpAny_bind (wpAny_updateDictKeysTo d1 d3 (wpAny_pure (q _ ?_ (Heap.SameBut.update ..))) (by omega))
        rw [zfX zs [] (by simpa using o6)]
        exact ⟨_, _, pd + 1, Heap.get?_update_self _ d1 (Obj.isFreed_of_dict (Obj.data_mapDictKeys d3 _)), d2.mapDictKeys _, Obj.data_mapDictKeys d3 _, o4, fun z hz' => (tupleKind (zay P w)).keeps (o5 z hz') d1 d3 (Heap.SameBut.update ..), o6⟩
      · rename_i h0
        have e0 : to.size = 0 := by
          have : to.isEmpty = true := by simpa using h0
          rw [Array.isEmpty_iff.mp this]; rfl
        have z0 : zs = [] := List.length_eq_zero_iff.mp (by omega)
        subst z0
        exact wpAny_pure (q _ (by simpa [zbs] using hd) (Heap.SameBut.refl _ _))
    · refine wpAny_bind (wpAny_dictEpoch o1 o3 (wpAny_bind (wpAny_dictEntries o1 o3 (wpAny_bind ?_))))
      rw [Std.Legacy.Range.forIn_eq_forIn_range']
      simp only [Nat.div_one, Nat.add_sub_cancel, Nat.sub_zero, Std.Legacy.Range.size]
      refine wpAny_forIn_list _ (fun zcO _ s' => ∃ h2 i, s' = { s with heap := h2 } ∧ zcO = List.range' i (to.size - i) ∧ i ≤ to.size ∧ h2.DictOfH (tupleKind (zay P w)) d (zbs xs (zs.take i)) ∧ h2.get? o = some oo ∧ Heap.SameBut d s.heap h2)
        _ (fun x zcO b s' => ?_) (fun b s' => ?_) _ _ ⟨s.heap, 0, rfl, by simp, Nat.zero_le _, by simpa [zbs] using hd, o1, Heap.SameBut.refl _ _⟩
      · rintro ⟨h2, i, rfl, er, hi, hd2, oh, sb⟩
        have lt : i < to.size := by
          by_cases z : i < to.size
          · exact z
          · rw [show to.size - i = 0 by omega] at er; simp at er
        rw [show to.size - i = (to.size - (i + 1)) + 1 by omega, List.range'_succ] at er
        injection er with ex erest
        subst ex
        refine wpAny_bind (wpAny_dictEntries oh o3 ?_)
        obtain ⟨z, ez⟩ : ∃ z, zs[x]? = some z := ⟨zs[x]'(by omega), List.getElem?_eq_getElem _⟩
        have et : to[x]? = some (entryOfKey (tupleKind (zay P w)) z) := by rw [entry_at o4 x, ez]; rfl
        rw [et]
        show wpAny _ _ (holding [Value.ref z.2.1, z.2.2] (dictSetHashed d (.ref z.2.1) ((tupleKind (zay P w)).hash z.1) z.2.2) >>= _) _ _ _
        have hz := List.mem_of_getElem? ez
        have ml := zdY xs (zs.take x)
        have tl : (zs.take x).length ≤ zs.length := by rw [List.length_take]; omega
        refine wpAny_bind (wpAny_holding (zuD (s := { s with heap := h2 }) hu ((tupleKind (zay P w)).keeps (o5 z hz) d1 d3 sb) hd2 (by omega) fun h3 hd3 sb3 => ?_))
        have oh3 : h3.get? o = some oo := (sb3.2 o (Ne.symm ne)).trans oh
        refine wpAny_bind (wpAny_dictEpoch (s := { s with heap := h3 }) oh3 o3 ?_)
        rw [if_neg (by simp)]
        exact wpAny_pure ⟨h3, x + 1, rfl, erest, lt, by rw [ze2 xs zs x z ez]; exact hd3, oh3, sb.trans sb3⟩
      · rintro ⟨h2, i, rfl, er, hi, hd2, oh, sb⟩
        have : i = to.size := by
          by_cases z : i < to.size
          · rw [show to.size - i = (to.size - (i + 1)) + 1 by omega, List.range'_succ] at er; cases er
          · omega
        rw [this, lz, List.take_length] at hd2
        exact wpAny_pure (q h2 hd2 sb)
  · refine wpAny_bind (wpAny_dictEpoch o1 o3 (wpAny_bind (wpAny_dictEntries o1 o3 (wpAny_bind ?_))))
    rw [Std.Legacy.Range.forIn_eq_forIn_range']
    simp only [Nat.div_one, Nat.add_sub_cancel, Nat.sub_zero, Std.Legacy.Range.size]
    refine wpAny_forIn_list _ (fun zcO _ s' => ∃ h2 i, s' = { s with heap := h2 } ∧ zcO = List.range' i (to.size - i) ∧ i ≤ to.size ∧ h2.DictOfH (tupleKind (zay P w)) d (zbs xs (zs.take i)) ∧ h2.get? o = some oo ∧ Heap.SameBut d s.heap h2)
      _ (fun x zcO b s' => ?_) (fun b s' => ?_) _ _ ⟨s.heap, 0, rfl, by simp, Nat.zero_le _, by simpa [zbs] using hd, o1, Heap.SameBut.refl _ _⟩
    · rintro ⟨h2, i, rfl, er, hi, hd2, oh, sb⟩
      have lt : i < to.size := by
        by_cases z : i < to.size
        · exact z
        · rw [show to.size - i = 0 by omega] at er; simp at er
      rw [show to.size - i = (to.size - (i + 1)) + 1 by omega, List.range'_succ] at er
      injection er with ex erest
      subst ex
      refine wpAny_bind (wpAny_dictEntries oh o3 ?_)
      obtain ⟨z, ez⟩ : ∃ z, zs[x]? = some z := ⟨zs[x]'(by omega), List.getElem?_eq_getElem _⟩
      have et : to[x]? = some (entryOfKey (tupleKind (zay P w)) z) := by rw [entry_at o4 x, ez]; rfl
      rw [et]
      show wpAny _ _ (holding [Value.ref z.2.1, z.2.2] (dictSetHashed d (.ref z.2.1) ((tupleKind (zay P w)).hash z.1) z.2.2) >>= _) _ _ _
      have hz := List.mem_of_getElem? ez
      have ml := zdY xs (zs.take x)
      have tl : (zs.take x).length ≤ zs.length := by rw [List.length_take]; omega
      refine wpAny_bind (wpAny_holding (zuD (s := { s with heap := h2 }) hu ((tupleKind (zay P w)).keeps (o5 z hz) d1 d3 sb) hd2 (by omega) fun h3 hd3 sb3 => ?_))
      have oh3 : h3.get? o = some oo := (sb3.2 o (Ne.symm ne)).trans oh
      refine wpAny_bind (wpAny_dictEpoch (s := { s with heap := h3 }) oh3 o3 ?_)
      rw [if_neg (by simp)]
      exact wpAny_pure ⟨h3, x + 1, rfl, erest, lt, by rw [ze2 xs zs x z ez]; exact hd3, oh3, sb.trans sb3⟩
    · rintro ⟨h2, i, rfl, er, hi, hd2, oh, sb⟩
      have : i = to.size := by
        by_cases z : i < to.size
        · rw [show to.size - i = (to.size - (i + 1)) + 1 by omega, List.range'_succ] at er; cases er
        · omega
      rw [this, lz, List.take_length] at hd2
      exact wpAny_pure (q h2 hd2 sb)
end
end L2.LW
set_option maxHeartbeats 4000000
namespace L2.LW
open PySem PySem.Spec PySem.W PySem.Calls PyProof.Rows
noncomputable def zg9 (kvs kvs2 : List (List Key × V)) : List (List Key × V) := kvs2.foldl (fun acc p => zhv acc p.1 p.2) kvs
theorem KT.merge {H : Hp} : ∀ {kvs2 : List (List Key × V)} {zs : List (List Key × Addr × Value)}, KT H kvs2 zs → ∀ {kvs : List (List Key × V)} {xs : List (List Key × Addr × Value)}, KT H kvs xs → KT H (zg9 kvs kvs2) (zbs xs zs)
  | _, _, .nil, _, _, r => r
  | _, _, .cons (a := p) (b := z) h t, kvs, xs, r => by
    have r1 : KT H (zhv kvs p.1 p.2) (storedH xs z.1 z.2.1 z.2.2) := by
      have e : p.1 = z.1 := h.1
      rw [e]
      exact KT.put r z.1 (by rw [← e]; exact h.2.1) h.2.2
    exact KT.merge t r1
section
variable {X : Cx}
theorem zoo (hu : X.A.units + 64 < cLine) : MtR X "dict.update" (fun x xs H Q => ∃ a b kvs kvs2, x = .ref a ∧ xs = [.ref b] ∧ a ≠ b ∧ H a = some (.dT kvs) ∧ H b = some (.dT kvs2) ∧ (∀ p ∈ kvs2, zdX p.1) ∧ kvs.length + kvs2.length < sizeLine ∧ Q .non (upd H a (.dT (zg9 kvs kvs2)))) := by
  rintro pins s σ H x xs v us Q I rx rs ⟨a, b, kvs, kvs2, rfl, rfl, ne, ea, eb, sm, hsz, q⟩
  cases rx
  obtain ⟨u, rfl, ru⟩ := zfI rs
  cases ru
  obtain ⟨_, hd, zs, rel, dd⟩ := znt I.hok ea
  obtain ⟨-, hd2, zs2, rel2, dd2⟩ := znt I.hok eb
  have l1 : zs.length = kvs.length := (Paired.length rel).symm
  have l2 : zs2.length = kvs2.length := (Paired.length rel2).symm
  have sm2 : ∀ z ∈ zs2, zdX z.1 := by
    clear q hsz l2 dd2 eb
    induction rel2 with
    | nil => intro z hz; cases hz
    | cons h t ih =>
      intro z hz
      rcases List.mem_cons.mp hz with rfl | hz
      · rw [← h.1]; exact sm _ List.mem_cons_self
      · exact ih (fun p hp => sm p (List.mem_cons_of_mem _ hp)) z hz
  refine wpAny_call_entry PySem.F.slot_dict_update dd.typeIs PySem.F.entry_dict_update ?_ (PySem.F.args_dict_update_2 _ _)
  unfold Builtin.«dict.update»
  refine wpAny_bind ?_
  unfold Builtin.Dict.selfAndRest
  refine wpAny_bind (wpAny_notOrdered_dict dd.typeIs ?_)
  show wpAny _ _ (pure (a, [Value.ref b])) _ _ s
  refine wpAny_pure ?_
  show wpAny _ _ (Builtin.Dict.updateFrom "dict.update" a (.ref b) [] .none) _ _ s
  unfold Builtin.Dict.updateFrom
  refine wpAny_bind (wpAny_typeOf dd2.typeIs ?_)
  rw [if_neg (by decide)]
  refine wpAny_bind ?_
  unfold Builtin.Dict.merge
  refine wpAny_bind ?_
  unfold Builtin.Dict.readDirectly
  refine wpAny_bind (wpAny_isInstance dd2.typeIs isSubtype_dict_dict ?_)
  simp only [Bool.not_true, Bool.false_eq_true, if_false]
  refine wpAny_bind (wpAny_specialOf dd2.typeIs PySem.F.slot_dict_iter.lookup (wpAny_pure ?_))
  simp only [if_true, beq_self_eq_true]
  refine wpAny_bind (wpAny_pure (zuE (show X.A.in1.units < cLine from Nat.lt_of_le_of_lt (Nat.le_refl _) (by show X.A.units + 1 < cLine; omega)) ne hd2 dd dd2 sm2 (by omega) fun h2 dd3 sb => ?_))
  show wpAny _ _ (Builtin.Dict.addKeywords a [] >>= _) _ _ _
  refine wpAny_bind (wpAny_pure (wpAny_pure ⟨.none, rfl, .non, _, ?_, rfl, q⟩))
  obtain ⟨ob, es, ep, q1, q2, q3, q4, _, q5⟩ := dd3
  have ml := zdY zs zs2
  refine zhw (t' := s.toks) I (by rw [ea]; exact True.intro) sb ⟨ob, q1⟩ ⟨?_, hd, _, (KT.merge rel2 rel).keeps fun c ys ec => ?_, ob, es, ep, q1, q2, q3, q4, q5⟩
  · have := Paired.length (KT.merge rel2 rel)
    omega
  · rw [za3 (zrC ec ea (fun z => nomatch z))]
    exact ec
end
theorem zop {K : PySem.W.Frag} {W : Addr → Prop} {H : Hp} : ∀ {ns2 : List (List Int)} {ys2 : List V} {vs2 : List D}, ns2.length = ys2.length → Reps K W H vs2 ys2 → ∀ {ns : List (List Int)} {ys : List V} {vs : List D}, ns.length = ys.length → Reps K W H vs ys →
    ORep K W H (.dct true (zdb (ns.map kT) vs (ns2.map kT) vs2).1 (zdb (ns.map kT) vs (ns2.map kT) vs2).2) (.dT (zg9 (zd8 ns ys) (zd8 ns2 ys2)))
  | [], [], _, _, .nil, ns, ys, vs, l, r => .dT l r
  | n :: ns2, y :: ys2, _, l2, .cons (d := d) (ds := dt) h t, ns, ys, vs, l, r => by
    have o1 := zrc l r n h
    have st : ∀ {D0 : D} {P0 : List (List Key × V)}, ORep K W H D0 (.dT P0) → ∃ ns' ys' vs', D0 = .dct true (ns'.map kT) vs' ∧ P0 = zd8 ns' ys' ∧ ns'.length = ys'.length ∧ Reps K W H vs' ys' := by
      intro D0 P0 o
      cases o with
      | dT l r => exact ⟨_, _, _, rfl, rfl, l, r⟩
    obtain ⟨ns', ys', vs', e1, e2, l', r'⟩ := st o1
    have ih := zop (ns2 := ns2) (ys2 := ys2) (by simpa using l2) t l' r'
    have e3 : zdb (ns.map kT) vs ((n :: ns2).map kT) (d :: dt) = zdb (ns'.map kT) vs' (ns2.map kT) dt := by
      rw [List.map_cons, zdb, e1]
    have e4 : zg9 (zd8 ns ys) (zd8 (n :: ns2) (y :: ys2)) = zg9 (zd8 ns' ys') (zd8 ns2 ys2) := by
      show zg9 (zhv (zd8 ns ys) (n.map Sum.inl) y) (zd8 ns2 ys2) = _
      rw [e2]
    rw [e3, e4]
    exact ih
theorem zsC {ns : List (List Int)} {ys : List V} (h : (ns.map kT).all ziS = true) : ∀ p ∈ zd8 ns ys, zdX p.1 := by
  intro p hp
  have h1 := (List.of_mem_zip (show (p.1, p.2) ∈ _ from hp)).1
  rw [List.mem_map] at h1
  obtain ⟨n, hn, e⟩ := h1
  have h2 := List.all_eq_true.mp h (kT n) (List.mem_map.mpr ⟨n, hn, rfl⟩)
  rw [← e]
  unfold kT ziS at h2
  match n, h2 with
  | [], h2 => simp at h2
  | [_], h2 => simp at h2
  | [a, b], h2 => exact ⟨a, b, rfl, by simpa using h2⟩
  | _ :: _ :: _ :: _, h2 => simp at h2
section
variable {X : Cx} {fn : Nat → List D → Option SV} {fa : Nat → List D → Option Ans} {fuel : Nat} {pos p p2 : Pos} {x y : Str}
theorem zuF (i j : Nat) {apos cpos : Pos} (hu : X.A.units + 64 < cLine) (hN : X.N[i]? = some x) (hv : Vis X.env.scope x) (hN2 : X.N[j]? = some y) (hv2 : Vis X.env.scope y) (hst : starEach [Expr.Name y p2] X.env = (false, eval (.Name y p2) X.env) :: starEach [] X.env)
    (hd : (x == ("__debug__" : Str)) = false) (hcd : (x == ("__classdict__" : Str)) = false) (hd2 : (y == ("__debug__" : Str)) = false) (hcd2 : (y == ("__classdict__" : Str)) = false)
    (hs : swapsWith (.Call (.Attribute (.Name x p) "update" apos) [.Name y p2] [] cpos) Option.none pos.line X.env = pure false := by rfl)
    (hbase : attributeBase (.Name x p) "update" X.env (eval (.Name x p) X.env) = eval (.Name x p) X.env := by rfl)
    (hline : (apos.endLine == cpos.line) = true := by rfl) :
    IS X (exS fa fuel (.dupd i j)) (.Expr (.Call (.Attribute (.Name x p) "update" apos) [.Name y p2] [] cpos) pos) :=
  .mk <| (zhp (ztZ PySem.F.plainAttrs_dict PySem.F.slot_dict_update PySem.F.type_dict_update (zoo hu) (zd3 hN hv hd hcd) (zcr (zd3 hN2 hv2 hd2 hcd2) zgX hst) hbase (by rw [hst]; rfl) hline hst zaj) hs).imp fun D σ H zz3 => by
    obtain ⟨W, ρ, y, hR, hy, q⟩ := zz3
    simp only [zsc] at hy
    unfold znD at hy
    split at hy
    · cases hy
    rename_i nij
    split at hy
    case h_2 => cases hy
    rename_i x0 h
    unfold zpO at hy
    split at hy
    case h_2 => cases hy
    rename_i ks vs ks2 vs2 hc hc2
    split at hy
    case isFalse => cases hy
    rename_i hcond
    cases hy
    rw [Bool.and_eq_true, decide_eq_true_iff] at hcond
    unfold zda at hc2
    split at hc2
    case h_2 => cases hc2
    rename_i y0 h0
    obtain ⟨a, o, h1, h2, h3, h4⟩ := hR.own i _ _ h hc
    obtain ⟨b, o2, g1, g2, g3, g4⟩ := hR.own j _ _ h0 hc2
    have ne : a ≠ b := fun z => nij (hR.inj i j _ _ _ _ a h h0 hc hc2 h1 (by rw [z]; exact g1))
    cases h4 with
    | dT l rp =>
    cases g4 with
    | dT l2 rp2 =>
    have le := zfP
    refine ⟨_, h1, .inr (.inr (.inl ⟨rfl, .inr ⟨_, h3⟩⟩)), _, g1, a, b, _, _, rfl, rfl, ne, h3, g3, zsC hcond.1, ?_, ?_⟩
    · rw [zhN l, zhN l2, ← le]
      simpa using hcond.2
    · exact q W σ _ (zfz hR h hc h1 (.refl H) h3 ⟨fun _ z => (nomatch z), fun _ _ z => (nomatch z)⟩ (zop l2 rp2 l rp))
end
end L2.LW
set_option maxHeartbeats 4000000
set_option maxHeartbeats 4000000
namespace L2.LW
open PySem PySem.Spec PySem.W PySem.Calls PyProof.Rows
section
variable {X : Cx} {fn : Nat → List D → Option SV}
theorem zqb (xs : List V) (k : Int) (hk : 0 ≤ k) : zpw xs (some k) Option.none = xs.drop k.toNat := by
  obtain ⟨n, rfl⟩ := Int.eq_ofNat_of_zero_le hk
  unfold zpw
  rw [HT.sIx_none, HT.sIx_nat, Int.toNat_natCast]
  rcases Nat.le_total n xs.length with h | h
  · rw [Nat.min_eq_left h, List.take_of_length_le]; rw [List.length_drop]; omega
  · rw [Nat.min_eq_right h, Nat.sub_self, List.take_zero, List.drop_of_length_le h]
theorem zuG {a b : Expr} {ca cb : E} {p pos : Pos} (ha : IE X fn a ca) (hb : IE X fn b cb) : IE X fn (.Subscript a (.Slice Option.none (some b) Option.none p) pos) (.prim .cutT (.cons ca (.cons cb .nil))) :=
  .mk <| (zht zqU ha.v zkj (zkk hb.v)).imp fun σ H Q zz3 => by
    obtain ⟨W, ρ, r, hR, he, q⟩ := zz3
    simp only [zcs, zch, zbB, jo1, jo2] at he
    obtain ⟨rs, ⟨r1, e1, rs', ⟨r2, e2, rs'', e3, rfl⟩, rfl⟩, e4⟩ := he
    cases e3
    refine ⟨W, ρ, r1, hR, e1, fun v1 H1 s1 f1 => ⟨W, ρ, r2, hR.same s1, e2, fun v2 H2 s2 f2 => ?_⟩⟩
    replace e4 : znz [zbM r1, zbM r2] = some r := e4
    unfold znz at e4
    split at e4
    case h_2 => cases e4
    rename_i l k z
    have h1 := (f1.same s2).sees
    have h2 := f2.sees
    injection z with z1 z2
    injection z2 with z2 _
    rw [z1] at h1
    rw [z2] at h2
    split at e4
    case isFalse => cases e4
    rename_i hk
    cases e4
    obtain ⟨p, xs, rfl, hp, rp⟩ := h1.tup
    cases h2.int
    have hl := rp.length
    refine ⟨k, rfl, p, xs, rfl, hp, fun w => ?_, fun p' hp' => ?_⟩
    · obtain ⟨n, rfl⟩ := Int.eq_ofNat_of_zero_le hk.1
      have w2 := w.2
      rw [HT.sIx_nat] at w2
      omega
    rw [zly xs k hk.1]
    have s12 := s1.trans s2
    exact q _ _ (s12.trans (zaP hp' _)) ((zfO hp' (rp.take _)).back s12)
theorem zuH {a b : Expr} {ca cb : E} {p pos : Pos} (ha : IE X fn a ca) (hb : IE X fn b cb) : IE X fn (.Subscript a (.Slice (some b) Option.none Option.none p) pos) (.prim .cutF (.cons ca (.cons cb .nil))) :=
  .mk <| (zht zqU ha.v (zkk hb.v) zkj).imp fun σ H Q zz3 => by
    obtain ⟨W, ρ, r, hR, he, q⟩ := zz3
    simp only [zcs, zch, zbB, jo1, jo2] at he
    obtain ⟨rs, ⟨r1, e1, rs', ⟨r2, e2, rs'', e3, rfl⟩, rfl⟩, e4⟩ := he
    cases e3
    refine ⟨W, ρ, r1, hR, e1, fun v1 H1 s1 f1 => ⟨W, ρ, r2, hR.same s1, e2, fun v2 H2 s2 f2 => ?_⟩⟩
    replace e4 : znA [zbM r1, zbM r2] = some r := e4
    unfold znA at e4
    split at e4
    case h_2 => cases e4
    rename_i l k z
    have h1 := (f1.same s2).sees
    have h2 := f2.sees
    injection z with z1 z2
    injection z2 with z2 _
    rw [z1] at h1
    rw [z2] at h2
    split at e4
    case isFalse => cases e4
    rename_i hk
    cases e4
    obtain ⟨p, xs, rfl, hp, rp⟩ := h1.tup
    cases h2.int
    have hl := rp.length
    refine ⟨k, rfl, p, xs, rfl, hp, fun w => ?_, fun p' hp' => ?_⟩
    · obtain ⟨n, rfl⟩ := Int.eq_ofNat_of_zero_le (Int.le_of_lt hk.1)
      have w2 := w.1
      rw [HT.sIx_nat] at w2
      omega
    rw [zqb xs k (Int.le_of_lt hk.1)]
    have s12 := s1.trans s2
    exact q _ _ (s12.trans (zaP hp' _)) ((zfO hp' (rp.drop _)).back s12)
theorem zsD : OpR X (binaryOp .Add) (VR2 X.K (zal .addT)) := by
  rintro pins s σ H x y v u Q I rx ry ⟨W, ds, r, wf, hs, hf, q⟩
  obtain ⟨d, e, rfl, h1, h2⟩ := pr2 hs
  replace hf : znB [d, e] = some r := hf
  unfold znB at hf
  split at hf
  case h_2 => cases hf
  rename_i a b z
  cases z
  split at hf
  case isFalse => cases hf
  rename_i hl
  cases hf
  obtain ⟨p, xs, rfl, hp, rp⟩ := h1.tupH
  obtain ⟨p2, xs2, rfl, hp2, rp2⟩ := h2.tupH
  have l1 := rp.length
  have l2 := rp2.length
  by_cases hx : xs = []
  · subst hx
    cases rp
    cases rx; cases ry
    obtain ⟨its, rv, ht, hz⟩ := I.tuple (SqT.of hp)
    obtain ⟨its2, rv2, ht2, hz2⟩ := I.tuple (SqT.of hp2)
    cases rv
    obtain ⟨⟨c1, d1, da1, sl1⟩, ho, hc, n, hd⟩ := id ht
    obtain ⟨⟨c2, d2, da2, sl2⟩, ho2, hc2, n2, hd2⟩ := id ht2
    simp only at hc hd hc2 hd2
    subst hc hd hc2 hd2
    refine concat_meets ⟨_, ho, rfl⟩ ⟨_, ho2, rfl⟩ noFill_tuple_add seq_tuple_add PySem.F.slot_tuple_add PySem.F.entry_tuple_add (PySem.F.args_tuple_add_2 _ _) (tuple_addW0 p p2 _ _ n n2 d1 d2 sl1 sl2 (by simp)) ⟨ho, ho2, ?_⟩
    exact ⟨.ref p2, H, I, rfl, q _ H (.refl H) (.val (.tup hp2 rp2))⟩
  · refine zrT pins s σ H _ _ v u Q I rx ry ⟨p, p2, xs, xs2, rfl, rfl, .of hp, .of hp2, hx, by rw [sizeLine_eq]; omega, fun z => ?_, fun _ p' hp' => ?_⟩
    · subst z
      cases rp2
      rw [List.append_nil] at q
      exact q _ H (.refl H) (.val (.tup hp rp))
    · exact q _ _ (zaP hp' _) (zfO hp' (rp.append rp2))
theorem zuI : OpR X (compareOp .Eq) (VR2 X.K (zal .eqS)) := by
  rintro pins s σ H x y v u Q I rx ry ⟨W, ds, r, wf, hs, hf, q⟩
  obtain ⟨d, e, rfl, h1, h2⟩ := pr2 hs
  replace hf : zwk [d, e] = some r := hf
  unfold zwk at hf
  split at hf
  case h_2 => cases hf
  rename_i a b z
  cases z
  cases hf
  cases h1.str; cases h2.str
  have e : decide (V.str a = V.str b) = decide (a = b) := by simp
  exact zxh pins s σ H _ _ v u Q I rx ry ⟨rfl, by rw [e]; exact q _ H (.refl H) (.val (.bl _))⟩
end
end L2.LW
set_option maxHeartbeats 4000000
set_option maxHeartbeats 4000000
set_option maxHeartbeats 4000000
namespace L2.LW
open PySem PySem.Spec PySem.W PySem.Calls PyProof.Rows
section
variable {X : Cx} {cl : Nat → Value} {E : XK} {fa : Nat → List D → Option Ans} {fuel : Nat} {st : Stmt} {sts sts' : List Stmt} {s : S} {t : T} {ts t1 t2 : Ts} {e c : Expr} {es : List Expr} {cs : Es} {cc : LW.E} {x y : Str} {p pos : Pos}
noncomputable def tCx (K : PySem.W.Frag) (cl : Nat → Value) (E : XK) (fa : Nat → List D → Option Ans) (i : Nat) (cs : Es) : TE := fun σ H Q => ∃ W ρ a, R K W ρ σ H ∧ zuc fa i cs ρ = some a ∧ match a with
  | .ok r [] => ∀ v H', Same H H' → Res K W H H' r v → Q v H'
  | .ok _ _ => False
  | .ex c => ∀ H', Same H H' → E (cl c) Option.none H'
section
variable {i : Nat} (hp : PE X e (tCx X.K cl E fa i cs))
include hp
end
end
end L2.LW
set_option maxHeartbeats 4000000
set_option maxHeartbeats 4000000
set_option maxHeartbeats 4000000
namespace L2.LW
open PySem PySem.Spec PySem.W PySem.Calls PyProof.Rows
theorem all_cons {P : Nat → Prop} {a : Nat} {l : List Nat} (h : P a) (t : ∀ c ∈ l, P c) : ∀ c ∈ a :: l, P c := fun c hc => by
  rcases List.mem_cons.mp hc with rfl | hc
  · exact h
  · exact t c hc
end L2.LW
set_option maxHeartbeats 4000000
set_option maxRecDepth 100000
set_option maxHeartbeats 4000000
set_option maxHeartbeats 4000000
set_option maxHeartbeats 4000000
namespace L2.LW
open PySem
section
variable {fn : Nat → List D → Option SV} {fa : Nat → List D → Option Ans} {fuel : Nat} {ρ : Env}
@[simp] theorem zxP {i : Int} : evE fn (.int i) ρ = some (.val (.int i)) := rfl
@[simp] theorem zyG {i : Bool} : evE fn (.bl i) ρ = some (.val (.bl i)) := rfl
@[simp] theorem zxQ : evE fn .non ρ = some (.val .non) := rfl
@[simp] theorem zxR {i : Str} : evE fn (.str i) ρ = some (.val (.str i)) := rfl
@[simp] theorem zoq {i : Nat} : evE fn (.var i) ρ = look ρ i := rfl
@[simp] theorem zwn {p : Prim} {es : Es} : evE fn (.prim p es) ρ = (zcN fn es ρ).bind fun rs => zal p (rs.map zbM) := rfl
@[simp] theorem zxS {es : Es} : evE fn (.tup es) ρ = (zcN fn es ρ).bind fun rs => (ziR rs).map fun ds => .val (.tup ds) := rfl
@[simp] theorem zxT {es : Es} : evE fn (.lst es) ρ = (zcN fn es ρ).bind fun rs => (ziR rs).map fun ds => .obj true (.lst ds) := rfl
noncomputable def zxU (r : SV) (k : Option SV) : Option SV := match r with
  | .val (.bl true) => k
  | .val (.bl false) => some (.val (.bl false))
  | _ => none
@[simp] theorem zxV {b : Bool} {k : Option SV} : zxU (.val (.bl b)) k = if b then k else some (.val (.bl false)) := by cases b <;> rfl
@[simp] theorem zxW {a b : E} : evE fn (.and a b) ρ = (evE fn a ρ).bind fun r => zxU r (evE fn b ρ) := rfl
@[simp] theorem zuJ {p q : Prim} {a b c : E} : evE fn (.chain p q a b c) ρ = (evE fn a ρ).bind fun x => (evE fn b ρ).bind fun y => (zal p [zbM x, zbM y]).bind fun z => zxU z ((evE fn c ρ).bind fun w => zal q [zbM y, zbM w]) := rfl
@[simp] theorem zwo {f : Nat} {es : Es} : evE fn (.call f es) ρ = (zcN fn es ρ).bind fun rs => zfn rs (fn f (rs.map zbM)) := rfl
theorem zqc {g : Bool} {src : Es} {cond elt : E} : evE fn (.comp g src cond elt) ρ = (zcN fn src ρ).bind fun rs => (za0 g rs).bind fun ds =>
    if ds.length ≤ line then (zdQ (fun d => evT fn cond (some (.val d) :: ρ)) (fun d => evE fn elt (some (.val d) :: ρ)) ds).map fun l => .obj true (.lst l) else none := rfl
@[simp] theorem zwp {t : Bool} : evE fn (.dnew t) ρ = some (.obj true (.dct t [] [])) := rfl
@[simp] theorem zwq {t : Bool} {k v : E} : evE fn (.done t k v) ρ = (evE fn k ρ).bind fun x => (evE fn v ρ).bind fun y => (toD x).bind fun a => (toD y).bind fun b => if zbS t a then some (.obj true (.dct t [a] [b])) else none := rfl
@[simp] theorem zlC : zcN fn .nil ρ = some [] := rfl
@[simp] theorem zjc {e : E} {es : Es} : zcN fn (.cons e es) ρ = (evE fn e ρ).bind fun r => (zcN fn es ρ).map (r :: ·) := rfl
@[simp] theorem zxX {a b : E} : evT fn (.and a b) ρ = (evT fn a ρ).bind fun k => if k then evT fn b ρ else some false := rfl
@[simp] theorem zyH {a b : E} : evT fn (.or a b) ρ = (evT fn a ρ).bind fun k => if k then some true else evT fn b ρ := rfl
@[simp] theorem zxY {a : E} : evT fn (.not a) ρ = (evT fn a ρ).map (!·) := rfl
@[simp] theorem zuK {i : Bool} : evT fn (.bl i) ρ = some i := rfl
@[simp] theorem zxZ {i : Nat} : evT fn (.var i) ρ = (look ρ i).bind zb0 := rfl
@[simp] theorem zwr {p : Prim} {es : Es} : evT fn (.prim p es) ρ = (zcN fn es ρ).bind fun rs => (zal p (rs.map zbM)).bind zb0 := rfl
@[simp] theorem zws {f : Nat} {es : Es} : evT fn (.call f es) ρ = (zcN fn es ρ).bind fun rs => (zfn rs (fn f (rs.map zbM))).bind zb0 := rfl
noncomputable def zyI (r : SV) (k : Option Bool) : Option Bool := match r with
  | .val (.bl true) => k
  | .val (.bl false) => some false
  | _ => none
@[simp] theorem zx0 {b : Bool} {k : Option Bool} : zyI (.val (.bl b)) k = if b then k else some false := by cases b <;> rfl
@[simp] theorem zuL {p q : Prim} {a b c : E} : evT fn (.chain p q a b c) ρ = (evE fn a ρ).bind fun x => (evE fn b ρ).bind fun y => (zal p [zbM x, zbM y]).bind fun z => zyI z ((evE fn c ρ).bind fun w => (zal q [zbM y, zbM w]).bind zb0) := rfl
@[simp] theorem zwt {e : E} : exS fa fuel (.expr e) ρ = (evE (prj fa) e ρ).map fun _ => (.nx, ρ) := rfl
@[simp] theorem zsE {i : Nat} {e : E} : exS fa fuel (.asg i e) ρ = (evE (prj fa) e ρ).bind fun r => if r.lent || !free ρ i then none else some (.nx, ρ.set i (some r)) := rfl
noncomputable def za7 : Option (Option SV) → Bool
  | some (some (.io _)) => false
  | _ => true
@[simp] theorem zor {i : Nat} : free ρ i = za7 ρ[i]? := by
  unfold free za7
  rcases h : ρ[i]? with _ | _ | (d | ⟨o, d⟩ | d) <;> rfl
@[simp] theorem zwu : za7 (some none) = true := rfl
@[simp] theorem zbl {d : D} : za7 (some (some (.val d))) = true := rfl
@[simp] theorem zos {o : Bool} {d : D} : za7 (some (some (.obj o d))) = true := rfl
noncomputable def zyJ (ρ : Env) (i j : Nat) : Option (Option SV) → Option (Fl × Env)
  | some (some (.val d)) => some (.nx, ρ.set i (some (.val d)))
  | some (some (.obj _ d)) => some (.nx, (ρ.set j (some (.val d))).set i (some (.val d)))
  | _ => none
@[simp] theorem zwv {i j : Nat} {o : Bool} {d : D} : zyJ ρ i j (some (some (.obj o d))) = some (.nx, (ρ.set j (some (.val d))).set i (some (.val d))) := rfl
@[simp] theorem zx1 {i j : Nat} : exS fa fuel (.mov i j) ρ = if free ρ i then zyJ ρ i j ρ[j]? else none := by
  rw [zq2]
  rcases h : ρ[j]? with _ | _ | (d | ⟨o, d⟩ | d) <;> rfl
noncomputable def zww (ρ : Env) (j : Nat) : Option (Option SV) → Option (List D × Env)
  | some (some (.val d)) => (zgC d).map fun l => (l, ρ)
  | some (some (.obj _ (.lst ds))) => some (ds, ρ.set j (some (.val (.lst ds))))
  | _ => none
@[simp] theorem zwx {j : Nat} {d : D} : zww ρ j (some (some (.val d))) = (zgC d).map fun l => (l, ρ) := rfl
@[simp] theorem zuM {j : Nat} : zg1 ρ j = zww ρ j ρ[j]? := by
  unfold zg1 zww
  rcases h : ρ[j]? with _ | _ | (d | ⟨o, d⟩ | d) <;> rfl
noncomputable def zzv (ρ : Env) (i : Nat) (x : SV) (r : Option SV) : Option D → Option (Fl × Env)
  | some (.lst ds) => r.bind fun r => (toD r).bind fun d => if ds.length < line then some (.nx, ρ.set i (some (x.put (.lst (ds ++ [d]))))) else none
  | _ => none
noncomputable def zuN (ρ : Env) (i : Nat) (r : Option SV) : Option (Option SV) → Option (Fl × Env)
  | some (some x) => zzv ρ i x r x.cell
  | _ => none
@[simp] theorem zhR {i : Nat} {r : Option SV} {ds : List D} : zuN ρ i r (some (some (.obj true (.lst ds)))) = r.bind fun r => (toD r).bind fun d => if ds.length < line then some (.nx, ρ.set i (some (.obj true (.lst (ds ++ [d]))))) else none := rfl
@[simp] theorem zx2 {i : Nat} {e : E} : exS fa fuel (.app i e) ρ = zuN ρ i (evE (prj fa) e ρ) ρ[i]? := by
  rw [zq3]
  rcases h : ρ[i]? with _ | _ | (d | ⟨_ | _, d⟩ | d)
  · rfl
  · rfl
  · rfl
  · rfl
  · cases d <;> rfl
  · cases d <;> rfl
noncomputable def zx3 (ρ : Env) (i : Nat) (x : SV) (rk rv : Option SV) : Option D → Option (Fl × Env)
  | some (.dct t ks vs) => rv.bind fun r => (toD r).bind fun d => rk.bind fun r => (toD r).bind fun a => if zbS t a && decide (ks.length < line) then some (.nx, ρ.set i (some (x.put (zhx t ks vs a d)))) else none
  | _ => none
noncomputable def zkD (ρ : Env) (i : Nat) (rk rv : Option SV) : Option (Option SV) → Option (Fl × Env)
  | some (some x) => zx3 ρ i x rk rv x.cell
  | _ => none
@[simp] theorem zot {i : Nat} {rk rv : Option SV} {t : Bool} {ks vs : List D} : zkD ρ i rk rv (some (some (.obj true (.dct t ks vs)))) = rv.bind fun r => (toD r).bind fun d => rk.bind fun r => (toD r).bind fun a => if zbS t a && decide (ks.length < line) then some (.nx, ρ.set i (some (.obj true (zhx t ks vs a d)))) else none := rfl
@[simp] theorem zlD {i : Nat} {rk rv : Option SV} {t : Bool} {ks vs : List D} : zkD ρ i rk rv (some (some (.io (.dct t ks vs)))) = rv.bind fun r => (toD r).bind fun d => rk.bind fun r => (toD r).bind fun a => if zbS t a && decide (ks.length < line) then some (.nx, ρ.set i (some (.io (zhx t ks vs a d)))) else none := rfl
@[simp] theorem zwy {i : Nat} {k v : E} : exS fa fuel (.dset i k v) ρ = zkD ρ i (evE (prj fa) k ρ) (evE (prj fa) v ρ) ρ[i]? := by
  rw [znJ]
  rcases h : ρ[i]? with _ | _ | (d | ⟨_ | _, d⟩ | d)
  · rfl
  · rfl
  · rfl
  · rfl
  · cases d <;> rfl
  · cases d <;> rfl
@[simp] theorem zwz {i j : Nat} : exS fa fuel (.dupd i j) ρ = znD ρ i j := rfl
@[simp] theorem zuO {m : M} : exS fa fuel (.exprM m) ρ = (evM fa m ρ).map fun x => (.nx, x.2) := rfl
@[simp] theorem zx4 {c : E} {m : M} {a b : Ss} : exS fa fuel (.ifO c m a b) ρ = (evT (prj fa) c ρ).bind fun k => if k then zaS fa fuel a ρ else (evM fa m ρ).bind fun x => (zb0 x.1).bind fun k => if k then zaS fa fuel a x.2 else zaS fa fuel b x.2 := rfl
noncomputable def zri (ρ : Env) (xs : List AV) : Ans → Option (SV × Env)
  | .ok r outs => if r.fine && outs.all zc3 then (zgF ρ xs outs).map fun ρ' => (r, ρ') else none
  | .ex _ => none
@[simp] theorem zuP {xs : List AV} {r : SV} {outs : List D} : zri ρ xs (.ok r outs) = if r.fine && outs.all zc3 then (zgF ρ xs outs).map fun ρ' => (r, ρ') else none := rfl
@[simp] theorem zwA {f : Nat} {ma : MA} : evM fa (.call f ma) ρ = (zgx (prj fa) ma ρ).bind fun xs => (fa f (xs.map zr6)).bind (zri ρ xs) := rfl
@[simp] theorem zwB : zgx fn .nil ρ = some [] := rfl
@[simp] theorem zyK {c : E} {r : MA} : zgx fn (.e c r) ρ = (evE fn c ρ).bind fun x => (zqX x).bind fun a => (zgx fn r ρ).map (a :: ·) := rfl
noncomputable def zqd : Option (Option SV) → Option D
  | some (some x) => x.cell
  | _ => none
@[simp] theorem ztn {i : Nat} : zda ρ i = zqd ρ[i]? := by
  unfold zda zqd
  rcases h : ρ[i]? with _ | _ | (d | ⟨_ | _, d⟩ | d) <;> rfl
@[simp] theorem zuQ {d : D} : zqd (some (some (.obj true d))) = some d := rfl
@[simp] theorem zwC {d : D} : zqd (some (some (.io d))) = some d := rfl
@[simp] theorem zyL {i : Nat} {r : MA} : zgx fn (.s i r) ρ = (zda ρ i).bind fun d => if zgE d then (zgx fn r ρ).map (.s i d :: ·) else none := rfl
@[simp] theorem zyM {t : Bool} {r : MA} : zgx fn (.n t r) ρ = (zgx fn r ρ).map (.n t :: ·) := rfl
@[simp] theorem zwD : zgF ρ [] [] = some ρ := rfl
@[simp] theorem zyN {i : Nat} {d d' : D} {r : List AV} {ds : List D} : zgF ρ (.s i d :: r) (d' :: ds) = zgF (ztl ρ i d') r ds := rfl
@[simp] theorem zyO {t : Bool} {d' : D} {r : List AV} {ds : List D} : zgF ρ (.n t :: r) (d' :: ds) = zgF ρ r ds := rfl
@[simp] theorem zyP {d : D} {r : List AV} {ds : List D} : zgF ρ (.e d :: r) ds = zgF ρ r ds := rfl
noncomputable def zqe (ρ : Env) (i : Nat) (d : D) : Option (Option SV) → Env
  | some (some x) => ρ.set i (some (x.put d))
  | _ => ρ
@[simp] theorem zx5 {i : Nat} {d : D} : ztl ρ i d = zqe ρ i d ρ[i]? := by
  unfold ztl zqe
  rcases h : ρ[i]? with _ | _ | (d | ⟨_ | _, d⟩ | d) <;> rfl
@[simp] theorem zuR {i : Nat} {d d0 : D} : zqe ρ i d (some (some (.obj true d0))) = ρ.set i (some (.obj true d)) := rfl
@[simp] theorem zwE {i : Nat} {d d0 : D} : zqe ρ i d (some (some (.io d0))) = ρ.set i (some (.io d)) := rfl
@[simp] theorem zyQ {d : D} : zr6 (.e d) = d := rfl
@[simp] theorem zyR {i : Nat} {d : D} : zr6 (.s i d) = d := rfl
@[simp] theorem zyS {t : Bool} : zr6 (.n t) = .dct t [] [] := rfl
@[simp] theorem zwF {l : List D} : zqX (.val (.tup l)) = if plain (.tup l) then some (.e (.tup l)) else none := rfl
@[simp] theorem zuS {t : Bool} {ks vs : List D} : zgE (.dct t ks vs) = zbA vs := rfl
@[simp] theorem zto {t : Bool} {ks vs : List D} : zc3 (.dct t ks vs) = zbA vs := rfl
@[simp] theorem zwG {d : D} : SV.fine (.val d) = plain d := rfl
@[simp] theorem zx6 {e : E} : exS fa fuel (.ret e) ρ = (evE (prj fa) e ρ).bind fun r => if r.lent then none else some (.rt r, ρ) := rfl
noncomputable def zx7 (ρ : Env) (i : Nat) : Option (Option SV) → Option (Fl × Env)
  | some (some (.val d)) => some (.rt (.val d), ρ)
  | some (some (.obj _ d)) => some (.rt (.obj true d), ρ.set i none)
  | _ => none
@[simp] theorem zwH {i : Nat} {d : D} : zx7 ρ i (some (some (.val d))) = some (.rt (.val d), ρ) := rfl
@[simp] theorem zwI {i : Nat} {o : Bool} {d : D} : zx7 ρ i (some (some (.obj o d))) = some (.rt (.obj true d), ρ.set i none) := rfl
@[simp] theorem zwJ {i : Nat} : exS fa fuel (.retV i) ρ = zx7 ρ i ρ[i]? := by
  rw [znK]
  rcases h : ρ[i]? with _ | _ | (d | ⟨o, d⟩ | d) <;> rfl
@[simp] theorem zx8 {c : E} {a b : Ss} : exS fa fuel (.ifs c a b) ρ = (evT (prj fa) c ρ).bind fun k => if k then zaS fa fuel a ρ else zaS fa fuel b ρ := rfl
theorem zeO {i : Nat} {g : Bool} {src : Es} {body : Ss} : exS fa fuel (.for_ i g src body) ρ = (zcN (prj fa) src ρ).bind fun rs => if rs.any SV.lent || !free ρ i then none else (za0 g rs).bind fun ds => zgy i (zaS fa fuel body) ds ρ := rfl
theorem zed {i j : Nat} {body : Ss} : exS fa fuel (.forV i j body) ρ = if free ρ i then (zg1 ρ j).bind fun x => zgy i (zaS fa fuel body) x.1 x.2 else none := rfl
theorem zfY {c : E} {body : Ss} : exS fa fuel (.while_ c body) ρ = zc4 (evT (prj fa) c) (zaS fa fuel body) fuel ρ := rfl
noncomputable def zqf (ρ : Env) (j : Nat) : Option (Option SV) → Env
  | some (some (.obj true d)) => ρ.set j (some (.val d))
  | _ => ρ
@[simp] theorem zx9 {j : Nat} : zqY ρ j = zqf ρ j ρ[j]? := by
  unfold zqY zqf
  rcases h : ρ[j]? with _ | _ | (d | ⟨_ | _, d⟩ | d) <;> rfl
@[simp] theorem zuT {j : Nat} {d : D} : zqf ρ j (some (some (.val d))) = ρ := rfl
@[simp] theorem zuU {j : Nat} {d : D} : zqf ρ j (some (some (.obj true d))) = ρ.set j (some (.val d)) := rfl
@[simp] theorem zya {js : List Nat} {s : S} : exS fa fuel (.frz js s) ρ = exS fa fuel s (js.foldl zqY ρ) := rfl
@[simp] theorem zwK : exS fa fuel .stop ρ = none := rfl
@[simp] theorem zwL : zaS fa fuel .nil ρ = some (.nx, ρ) := rfl
noncomputable def zhS (x : Fl × Env) (k : Env → Option (Fl × Env)) : Option (Fl × Env) := match x.1 with
  | .nx => k x.2
  | _ => some x
@[simp] theorem ztp {ρ : Env} {k : Env → Option (Fl × Env)} : zhS (.nx, ρ) k = k ρ := rfl
@[simp] theorem ztq {ρ : Env} {r : SV} {k : Env → Option (Fl × Env)} : zhS (.rt r, ρ) k = some (.rt r, ρ) := rfl
@[simp] theorem zdj {s : S} {ss : Ss} : zaS fa fuel (.cons s ss) ρ = (exS fa fuel s ρ).bind fun x => zhS x (zaS fa fuel ss) := by
  exact id rfl
noncomputable def zou : Option (Fl × Env) → Option SV
  | some (.rt r, _) => some r
  | some (.nx, _) => some (.val .non)
  | _ => none
@[simp] theorem zwM {r : SV} {ρ : Env} : zou (some (.rt r, ρ)) = some r := rfl
end
noncomputable def zov : Option (Option SV) → Option SV
  | some (some (.val d)) => some (.val d)
  | some (some (.obj _ d)) => some (.obj false d)
  | some (some (.io d)) => some (.obj false d)
  | _ => none
@[simp] theorem zyb {ρ : Env} {i : Nat} : look ρ i = zov ρ[i]? := by
  unfold look zov
  rcases h : ρ[i]? with _ | _ | (d | ⟨o, d⟩ | d) <;> rfl
@[simp] theorem zuV {d : D} : zov (some (some (.val d))) = some (.val d) := rfl
@[simp] theorem zuW {o : Bool} {d : D} : zov (some (some (.obj o d))) = some (.obj false d) := rfl
@[simp] theorem zwN {d : D} : zov (some (some (.io d))) = some (.obj false d) := rfl
@[simp] theorem zwO {d : D} : zbM (.val d) = d := rfl
@[simp] theorem zwP {o : Bool} {d : D} : zbM (.obj o d) = d := rfl
@[simp] theorem zfZ {d : D} : toD (.val d) = some d := rfl
@[simp] theorem zsF {d : D} : toD (.obj true d) = some d := rfl
@[simp] theorem zwQ : ziR [] = some [] := rfl
@[simp] theorem zuX {r : SV} {rs : List SV} : ziR (r :: rs) = (toD r).bind fun d => (ziR rs).map (d :: ·) := rfl
@[simp] theorem zwR {d : D} : SV.lent (.val d) = false := rfl
@[simp] theorem zwS {d : D} : SV.lent (.obj true d) = false := rfl
@[simp] theorem zyc {i : Bool} : zeX i = some (.val (.bl i)) := rfl
@[simp] theorem zwT {b : Bool} : zb0 (.val (.bl b)) = some b := rfl
@[simp] theorem zuY {o : Bool} {l : List D} : zb0 (.obj o (.lst l)) = some (!l.isEmpty) := rfl
theorem zow {rs : List SV} {r : Option SV} (h : rs.any SV.lent = false) : zfn rs r = r := by
  unfold zfn; rw [h]; cases r <;> rfl
theorem zkE {rs : List SV} {x : SV} (h : x.plain = true) : zfn rs (some x) = some x := by
  unfold zfn; simp [h]
@[simp] theorem zrj {rs : List SV} {x : Option SV} (h : rs.any SV.lent = false) : zfn rs x = x := zow h
@[simp] theorem zuZ {i : Int} : plain (.int i) = true := by simp [plain]
@[simp] theorem zwU {i : Bool} : plain (.bl i) = true := by simp [plain]
@[simp] theorem zu0 {l : List D} : plain (.tup l) = zbA l := rfl
@[simp] theorem ztr : zbA [] = true := rfl
@[simp] theorem zsG {x : D} {xs : List D} : zbA (x :: xs) = (plain x && zbA xs) := rfl
@[simp] theorem zox {P : Nat → Option Fn} {fuel n : Nat} : prj (zas P fuel n) = za1 P fuel n := rfl
theorem zjd : ∀ (k : Nat) (ds : List D), zdR [] k ds = ds.map fun d => some (.val d)
  | _, [] => rfl
  | k, d :: r => by simp [zdR, zjd (k + 1) r]
theorem zsH (x : Option (Fl × Env)) : (match zpQ [] x with | some (.ok r []) => some r | _ => none) = zou x := by
  rcases x with _ | ⟨_ | _ | _ | r, ρ⟩ <;> rfl
theorem zmB {P : Nat → Option Fn} {fuel n i : Nat} {F : Fn} {ds : List D} (h : P i = some F) (hl : ds.length = F.np) (hio : F.io = []) (hx : F.xb = none := by rfl) :
    za1 P fuel (n + 1) i ds = zou (zaS (zas P fuel n) fuel F.body (ds.map (fun d => some (.val d)) ++ List.replicate (F.nl - F.np) none)) := by
  unfold za1 prj
  rw [zas, h]
  simp only [Option.bind_some, if_pos hl, hio, zjd, hx]
  exact zsH _
theorem zmC {P : Nat → Option Fn} {fuel n i : Nat} {F : Fn} {ds : List D} (h : P i = some F) (hl : ds.length = F.np) (hx : F.xb = none := by rfl) :
    zas P fuel (n + 1) i ds = zpQ F.io (zaS (zas P fuel n) fuel F.body (zdR F.io 0 ds ++ List.replicate (F.nl - F.np) none)) := by
  rw [zas, h]
  simp only [Option.bind_some, if_pos hl, hx]
@[simp] theorem zzw {a b : Int} : zal .add [.int a, .int b] = some (.val (.int (a + b))) := rfl
theorem zrk {a b : List D} (h : a.length + b.length ≤ line) : zal .add [.lst a, .lst b] = some (.obj true (.lst (a ++ b))) := by simp only [zal, zwh, if_pos h]
@[simp] theorem zzx {a b : Int} : zal .sub [.int a, .int b] = some (.val (.int (a - b))) := rfl
theorem zu1 {a b : Int} (h : -(2 ^ 64) < b ∧ b < 2 ^ 64) : zal .mul [.int a, .int b] = some (.val (.int (a * b))) := by simp only [zal, ztk, if_pos (Or.inr h : (-(2 ^ 64) < a ∧ a < 2 ^ 64) ∨ _), zcn]
theorem zrl {a b : Int} (h : 0 < b ∧ b < 1073741824) : zal .fdiv [.int a, .int b] = some (.val (.int (a / b))) := by simp only [zal, zpL, if_pos h, zcn]
theorem zhT {a b : Int} (h : 0 < b) : zal .mod [.int a, .int b] = some (.val (.int (a % b))) := by simp only [zal, zwi, if_pos h, zcn]
theorem zyd {a b : D} (h : zb5 8 a = true) (h' : zb5 8 b = true) : zal .eq [a, b] = some (.val (.bl (eqD a b))) := by simp [zal, pEq, h, h']
theorem zzy {a b : D} (h : zb5 8 a = true) (h' : zb5 8 b = true) : zal .ne [a, b] = some (.val (.bl (!eqD a b))) := by simp [zal, pNe, h, h']
@[simp] theorem zzz {a b : Int} : zal .eq [.int a, .int b] = some (.val (.bl (a == b))) := by rw [zyd rfl rfl, eqD]
@[simp] theorem zzA {a b : Int} : zal .ne [.int a, .int b] = some (.val (.bl (a != b))) := by rw [zzy rfl rfl, eqD]; rfl
@[simp] theorem zzT {a b : Int} : zal .lt [.int a, .int b] = some (.val (.bl (decide (a < b)))) := rfl
@[simp] theorem zzU {a b : Int} : zal .le [.int a, .int b] = some (.val (.bl (decide (a ≤ b)))) := rfl
@[simp] theorem zzV {a b : Int} : zal .gt [.int a, .int b] = some (.val (.bl (decide (b < a)))) := rfl
@[simp] theorem zyT {l : List D} : zal .len [.tup l] = some (.val (.int l.length)) := rfl
@[simp] theorem zyU {l : List D} : zal .len [.lst l] = some (.val (.int l.length)) := rfl
@[simp] theorem zzB {i : Int} : zal .abs [.int i] = some (.val (.int (if i < 0 then -i else i))) := rfl
@[simp] theorem zrm {i j : Int} : zal .min2 [.int i, .int j] = some (.val (.int (if j < i then j else i))) := rfl
@[simp] theorem zrn {i j : Int} : zal .max2 [.int i, .int j] = some (.val (.int (if j > i then j else i))) := rfl
theorem zro {n : Int} {r : List Int} : zal .maxL [.lst ((n :: r).map D.int)] = some (.val (.int (r.foldl max n))) := by
  have : ∀ l : List Int, ints? (l.map D.int) = some l := fun l => by induction l with
    | nil => rfl
    | cons x l ih => simp [ints?, ih]
  simp only [zal, zpM, this, Option.bind_some, zcn]
theorem zu2 {r : List Int} : zal .sumL [.lst (r.map D.int)] = some (.val (.int r.sum)) := by
  have : ∀ l : List Int, ints? (l.map D.int) = some l := fun l => by induction l with
    | nil => rfl
    | cons x l ih => simp [ints?, ih]
  simp only [zal, zpN, this, Option.bind_some, zcn]
@[simp] theorem zwV {l : List D} : zal .toTup [.lst l] = some (.val (.tup l)) := rfl
@[simp] theorem zyV {t : Ty} {d : D} : zal (.inst t) [d] = some (.val (.bl (ziP t d))) := rfl
theorem zu3 {l : List D} {i : Int} : zal .idx [.tup l, .int i] = (atI l i).map .val := rfl
theorem zoy {l : List D} {i : Int} : zal .idx [.lst l, .int i] = (atI l i).map .val := rfl
theorem atI_nat {α : Type} {l : List α} {k : Nat} (h : k < l.length) : atI l (k : Int) = some l[k] := by
  unfold atI ixN
  rw [if_pos (by omega), if_pos (by omega)]
  simp [h]
@[simp] theorem zwW {a b : D} : zal .idx [.tup [a, b], .int 0] = some (.val a) := rfl
@[simp] theorem zwX {a b : D} : zal .idx [.tup [a, b], .int 1] = some (.val b) := rfl
@[simp] theorem zwY {b : Int} : ziP .bool (.int b) = false := rfl
@[simp] theorem zwZ {b : Int} : ziP .int (.int b) = true := rfl
@[simp] theorem zw0 {l : List D} : ziP .tuple (.tup l) = true := rfl
theorem zje {α : Type} {f : α → D} {test : D → Option Bool} {elt : D → Option SV} {t : α → Bool} {e : α → D} : ∀ {xs : List α}, (∀ x ∈ xs, test (f x) = some (t x)) → (∀ x ∈ xs, t x = true → (elt (f x)).bind toD = some (e x)) →
    zdQ test elt (xs.map f) = some ((xs.filter t).map e)
  | [], _, _ => rfl
  | d :: r, h1, h2 => by
    have ih := zje (xs := r) (fun x hx => h1 x (List.mem_cons_of_mem _ hx)) (fun x hx => h2 x (List.mem_cons_of_mem _ hx))
    rw [List.map_cons, zdQ, h1 d List.mem_cons_self]
    simp only [Option.bind_some]
    cases ht : t d with
    | false => simp [ih, ht]
    | true =>
      have h3 := h2 d List.mem_cons_self ht
      rw [jo1] at h3
      obtain ⟨x, e1, e2⟩ := h3
      simp [ih, ht, e1, e2]
theorem zb1 {fn : Nat → List D → Option SV} {ρ : Env} {g : Bool} {src : Es} {cond elt : E} {rs : List SV} {α : Type} {f : α → D} {xs : List α} (t : α → Bool) (e : α → D) (h : zcN fn src ρ = some rs) (hi : za0 g rs = some (xs.map f)) (hl : xs.length ≤ line)
    (ht : ∀ x ∈ xs, evT fn cond (some (.val (f x)) :: ρ) = some (t x)) (he : ∀ x ∈ xs, t x = true → (evE fn elt (some (.val (f x)) :: ρ)).bind toD = some (e x)) :
    evE fn (.comp g src cond elt) ρ = some (.obj true (.lst ((xs.filter t).map e))) := by
  rw [zqc, h]
  simp only [Option.bind_some, hi, List.length_map, if_pos hl]
  rw [zje ht he]; rfl
theorem zcD {fn : Nat → List D → Option SV} {ρ : Env} {g : Bool} {src : Es} {elt : E} {rs : List SV} {α : Type} {f : α → D} {xs : List α} (e : α → D) (h : zcN fn src ρ = some rs) (hi : za0 g rs = some (xs.map f)) (hl : xs.length ≤ line)
    (he : ∀ x ∈ xs, (evE fn elt (some (.val (f x)) :: ρ)).bind toD = some (e x)) :
    evE fn (.comp g src (.bl true) elt) ρ = some (.obj true (.lst (xs.map e))) := by
  have := zb1 (fun _ => true) e h hi hl (fun _ _ => zuK) (fun x hx _ => he x hx)
  have e2 : xs.filter (fun _ => true) = xs := List.filter_eq_self.mpr fun _ _ => rfl
  rwa [e2] at this
theorem zlE {i : Nat} {body : Env → Option (Fl × Env)} (I : List D → Env → Prop) {ds : List D} : ∀ {post pre : List D} {ρ : Env}, ds = pre ++ post → I pre ρ →
    (∀ pre d post ρ, ds = pre ++ d :: post → I pre ρ → ∃ fl ρ', body (ρ.set i (some (.val d))) = some (fl, ρ') ∧ (fl = .nx ∨ fl = .ct) ∧ I (pre ++ [d]) ρ') →
    ∃ ρ', zgy i body post ρ = some (.nx, ρ') ∧ I ds ρ'
  | [], pre, ρ, e, h, _ => ⟨ρ, rfl, by rw [e]; simpa using h⟩
  | d :: post, pre, ρ, e, h, st => by
    obtain ⟨fl, ρ1, e1, e2, h1⟩ := st pre d post ρ e h
    obtain ⟨ρ', e3, h3⟩ := zlE I (ds := ds) (post := post) (pre := pre ++ [d]) (ρ := ρ1) (by simp [e]) h1 st
    refine ⟨ρ', ?_, h3⟩
    rw [zgy, e1]
    simp only [Option.bind_some]
    rcases e2 with rfl | rfl <;> exact e3
theorem zqg {i : Nat} {body : Env → Option (Fl × Env)} (I : Nat → Env → Prop) {ds : List D} {ρ : Env} (h0 : I 0 ρ)
    (st : ∀ k ρ (hk : k < ds.length), I k ρ → ∃ fl ρ', body (ρ.set i (some (.val ds[k]))) = some (fl, ρ') ∧ (fl = .nx ∨ fl = .ct) ∧ I (k + 1) ρ') :
    ∃ ρ', zgy i body ds ρ = some (.nx, ρ') ∧ I ds.length ρ' := by
  refine zlE (fun pre ρ => I pre.length ρ) (ds := ds) (post := ds) (pre := []) rfl h0 fun pre d post ρ e h => ?_
  subst e
  have hk : pre.length < (pre ++ d :: post).length := by simp
  obtain ⟨fl, ρ', h1, h2, h3⟩ := st pre.length ρ hk h
  refine ⟨fl, ρ', ?_, h2, by simpa using h3⟩
  rw [← h1]; simp
theorem zqh {i : Nat} {body : Env → Option (Fl × Env)} {α : Type} {f : α → D} {xs : List α} (I : Nat → Env → Prop) {ρ : Env} (h0 : I 0 ρ)
    (st : ∀ k ρ (hk : k < xs.length), I k ρ → ∃ fl ρ', body (ρ.set i (some (.val (f xs[k])))) = some (fl, ρ') ∧ (fl = .nx ∨ fl = .ct) ∧ I (k + 1) ρ') :
    ∃ ρ', zgy i body (xs.map f) ρ = some (.nx, ρ') ∧ I xs.length ρ' := by
  have := zqg (i := i) (body := body) I (ds := xs.map f) (ρ := ρ) h0 fun k ρ hk h => by
    obtain ⟨fl, ρ', h1, h2⟩ := st k ρ (by simpa using hk) h
    exact ⟨fl, ρ', by rw [List.getElem_map]; exact h1, h2⟩
  simpa using this
theorem zlF {i : Nat} {body : Env → Option (Fl × Env)} (I : Nat → Env → Prop) {a : Int} {m : Nat} {ρ : Env} (h0 : I 0 ρ)
    (st : ∀ k ρ, k < m → I k ρ → ∃ fl ρ', body (ρ.set i (some (.val (.int (a + (k : Int)))))) = some (fl, ρ') ∧ (fl = .nx ∨ fl = .ct) ∧ I (k + 1) ρ') :
    ∃ ρ', zgy i body ((List.range m).map fun (k : Nat) => D.int (a + (k : Int))) ρ = some (.nx, ρ') ∧ I m ρ' := by
  have := zqh (i := i) (body := body) (f := fun (k : Nat) => D.int (a + (k : Int))) (xs := List.range m) I (ρ := ρ) h0 fun k ρ hk h => by
    obtain ⟨fl, ρ', h1, h2⟩ := st k ρ (by simpa using hk) h
    exact ⟨fl, ρ', by rw [List.getElem_range]; exact h1, h2⟩
  simpa using this
theorem zeP {test : Env → Option Bool} {body : Env → Option (Fl × Env)} (I : Nat → Env → Prop) (J : Env → Prop) : ∀ {m n : Nat} {ρ : Env}, m < n → I m ρ →
    (∀ m ρ, I m ρ → (test ρ = some false ∧ J ρ) ∨ (test ρ = some true ∧ ∃ fl ρ' m', body ρ = some (fl, ρ') ∧ (fl = .nx ∨ fl = .ct) ∧ m' < m ∧ I m' ρ')) →
    ∃ ρ', zc4 test body n ρ = some (.nx, ρ') ∧ J ρ'
  | m, 0, ρ, hn, _, _ => by omega
  | m, n + 1, ρ, hn, h, st => by
    rcases st m ρ h with ⟨e, j⟩ | ⟨e, fl, ρ1, m', e1, e2, hm, h1⟩
    · exact ⟨ρ, by rw [zc4, e]; rfl, j⟩
    · obtain ⟨ρ', e3, j⟩ := zeP I J (m := m') (n := n) (ρ := ρ1) (by omega) h1 st
      refine ⟨ρ', ?_, j⟩
      rw [zc4, e]
      simp only [Option.bind_some, if_true, e1]
      rcases e2 with rfl | rfl <;> exact e3
end L2.LW
namespace LK
open L2.LW
noncomputable def ir0 : Ss := (.cons (.ifs (.or (.prim (.inst .bool) (.cons (.var 0) .nil)) (.not (.prim (.inst .int) (.cons (.var 0) .nil)))) (.cons (.ret (.bl false))
    .nil) .nil)
    (.cons (.ret (.chain .le .le (.var 1) (.var 0) (.var 2)))
    .nil))
noncomputable def ir1 : Ss := (.cons (.ret (.and (.prim (.inst .tuple) (.cons (.var 0) .nil)) (.prim .eq (.cons (.prim .len (.cons (.var 0) .nil)) (.cons (.int 2) .nil)))))
    .nil)
noncomputable def ir2 : Ss := (.cons (.ret (.and (.call 1 (.cons (.var 0) .nil)) (.and (.call 0 (.cons (.prim .idx (.cons (.var 0) (.cons (.int 0) .nil))) (.cons (.int 0) (.cons (.int 7) .nil)))) (.call 0 (.cons (.prim .idx (.cons (.var 0) (.cons (.int 1) .nil))) (.cons (.int 0) (.cons (.int 7) .nil)))))))
    .nil)
noncomputable def ir3 : Ss := (.cons (.ret (.and (.call 1 (.cons (.var 0) .nil)) (.and (.call 0 (.cons (.prim .idx (.cons (.var 0) (.cons (.int 1) .nil))) (.cons (.int 1) (.cons (.int 4) .nil)))) (.call 0 (.cons (.prim .idx (.cons (.var 0) (.cons (.int 0) .nil))) (.cons (.int 0) (.cons (.prim .idx (.cons (.var 0) (.cons (.int 1) .nil))) .nil)))))))
    .nil)
noncomputable def ir4 : Ss := (.cons (.ret (.prim .all (.cons (.comp true (.cons (.int 1) (.cons (.prim .len (.cons (.var 0) .nil)) .nil)) (.bl true) (.prim .lt (.cons (.prim .idx (.cons (.var 1) (.cons (.prim .sub (.cons (.var 0) (.cons (.int 1) .nil))) .nil))) (.cons (.prim .idx (.cons (.var 1) (.cons (.var 0) .nil))) .nil)))) .nil)))
    .nil)
noncomputable def ir5 : Ss := (.cons (.ifs (.or (.not (.prim (.inst .tuple) (.cons (.var 0) .nil))) (.not (.chain .le .le (.int 1) (.prim .len (.cons (.var 0) .nil)) (.int 24)))) (.cons (.ret (.bl false))
    .nil) .nil)
    (.cons (.ret (.and (.prim .all (.cons (.comp false (.cons (.var 0) .nil) (.bl true) (.call 2 (.cons (.var 0) .nil))) .nil)) (.call 4 (.cons (.var 0) .nil))))
    .nil))
noncomputable def ir6 : Ss := (.cons (.ifs (.not (.call 5 (.cons (.var 0) .nil))) (.cons .stop
    .nil) .nil)
    (.cons (.retV 0)
    .nil))
noncomputable def ir7 : Ss := (.cons (.ifs (.not (.call 3 (.cons (.var 0) .nil))) (.cons .stop
    .nil) .nil)
    (.cons (.retV 0)
    .nil))
noncomputable def ir9 : Ss := (.cons (.ret (.tup (.cons (.prim .min2 (.cons (.prim .abs (.cons (.var 0) .nil)) (.cons (.prim .abs (.cons (.var 1) .nil)) .nil))) (.cons (.prim .max2 (.cons (.prim .abs (.cons (.var 0) .nil)) (.cons (.prim .abs (.cons (.var 1) .nil)) .nil))) .nil))))
    .nil)
noncomputable def zu4 : Ss := (.cons (.ret (.prim .eq (.cons (.call 9 (.cons (.prim .sub (.cons (.prim .idx (.cons (.var 2) (.cons (.int 0) .nil))) (.cons (.prim .idx (.cons (.var 1) (.cons (.int 0) .nil))) .nil))) (.cons (.prim .sub (.cons (.prim .idx (.cons (.var 2) (.cons (.int 1) .nil))) (.cons (.prim .idx (.cons (.var 1) (.cons (.int 1) .nil))) .nil))) .nil))) (.cons (.var 0) .nil))))
    .nil)
noncomputable def zu5 : Ss := (.cons (.ret (.comp false (.cons (.var 0) .nil) (.call 10 (.cons (.var 2) (.cons (.var 3) (.cons (.var 0) .nil)))) (.var 0)))
    .nil)
noncomputable def zu6 : Ss := (.cons (.ifs (.prim .lt (.cons (.var 1) (.cons (.prim .len (.cons (.var 0) .nil)) .nil))) (.cons (.ret (.prim .idx (.cons (.var 0) (.cons (.var 1) .nil))))
    .nil) .nil)
    (.cons (.ret (.int 0))
    .nil))
noncomputable def zu7 : Ss := (.cons (.ret (.prim .mod (.cons (.prim .mod (.cons (.prim .mul (.cons (.var 0) (.cons (.int 48271) .nil))) (.cons (.var 1) .nil))) (.cons (.var 2) .nil))))
    .nil)
noncomputable def zlG : Ss := (.cons (.asg 12 (.prim .add (.cons (.prim .add (.cons (.call 13 (.cons (.var 0) (.cons (.prim .add (.cons (.prim .add (.cons (.var 1) (.cons (.int 2) .nil))) (.cons (.prim .mod (.cons (.prim .add (.cons (.var 10) (.cons (.prim .mul (.cons (.int 2) (.cons (.var 11) .nil))) .nil))) (.cons (.int 7) .nil))) .nil))) .nil))) (.cons (.prim .mul (.cons (.prim .mul (.cons (.int 31) (.cons (.var 10) .nil))) (.cons (.var 10) .nil))) .nil))) (.cons (.prim .mul (.cons (.prim .mul (.cons (.int 57) (.cons (.var 11) .nil))) (.cons (.var 11) .nil))) .nil))))
    (.cons (.ifs (.or (.prim .eq (.cons (.var 8) (.cons (.int 0) .nil))) (.prim .gt (.cons (.call 14 (.cons (.var 12) (.cons (.int 9931) (.cons (.prim .idx (.cons (.lst (.cons (.int 2) (.cons (.int 4) (.cons (.int 7) .nil)))) (.cons (.prim .sub (.cons (.var 8) (.cons (.int 1) .nil))) .nil))) .nil)))) (.cons (.int 0) .nil)))) (.cons (.app 9 (.tup (.cons (.prim .add (.cons (.var 6) (.cons (.var 10) .nil))) (.cons (.prim .add (.cons (.var 7) (.cons (.var 11) .nil))) .nil))))
    .nil) .nil)
    .nil))
noncomputable def zjf : Ss := (.cons (.for_ 11 true (.cons (.var 5) .nil) zlG)
    .nil)
noncomputable def zu8 : Ss := (.cons (.asg 3 (.call 13 (.cons (.var 0) (.cons (.var 1) .nil))))
    (.cons (.asg 4 (.prim .add (.cons (.int 1) (.cons (.call 14 (.cons (.var 3) (.cons (.int 9973) (.cons (.int 5) .nil)))) .nil))))
    (.cons (.asg 5 (.prim .add (.cons (.int 1) (.cons (.call 14 (.cons (.var 3) (.cons (.int 9967) (.cons (.int 6) .nil)))) .nil))))
    (.cons (.asg 6 (.call 14 (.cons (.call 13 (.cons (.var 0) (.cons (.prim .add (.cons (.var 1) (.cons (.int 1) .nil))) .nil))) (.cons (.int 9949) (.cons (.prim .sub (.cons (.int 9) (.cons (.var 4) .nil))) .nil)))))
    (.cons (.asg 7 (.call 14 (.cons (.call 13 (.cons (.var 0) (.cons (.prim .add (.cons (.var 1) (.cons (.int 1) .nil))) .nil))) (.cons (.int 9941) (.cons (.prim .sub (.cons (.int 9) (.cons (.var 5) .nil))) .nil)))))
    (.cons (.asg 8 (.call 14 (.cons (.prim .add (.cons (.var 3) (.cons (.int 3) .nil))) (.cons (.int 9907) (.cons (.int 4) .nil)))))
    (.cons (.asg 9 (.lst .nil))
    (.cons (.for_ 10 true (.cons (.var 4) .nil) zjf)
    (.cons (.ifs (.not (.var 9)) (.cons (.asg 9 (.lst (.cons (.tup (.cons (.var 6) (.cons (.var 7) .nil))) .nil)))
    .nil) .nil)
    (.cons (.ret (.prim .toTup (.cons (.prim .cutTo (.cons (.var 9) (.cons (.var 2) .nil))) .nil)))
    .nil))))))))))
noncomputable def zu9 : Ss := (.cons (.asg 1 (.lst (.cons (.tup (.cons (.int 1) (.cons (.int 2) .nil))) (.cons (.tup (.cons (.int 0) (.cons (.int 1) .nil))) (.cons (.tup (.cons (.int 1) (.cons (.int 1) .nil))) (.cons (.tup (.cons (.int 1) (.cons (.int 2) .nil))) (.cons (.tup (.cons (.int 0) (.cons (.int 2) .nil))) (.cons (.tup (.cons (.int 1) (.cons (.int 3) .nil))) (.cons (.tup (.cons (.int 2) (.cons (.int 3) .nil))) (.cons (.tup (.cons (.int 0) (.cons (.int 1) .nil))) (.cons (.tup (.cons (.int 1) (.cons (.int 2) .nil))) (.cons (.tup (.cons (.int 2) (.cons (.int 2) .nil))) (.cons (.tup (.cons (.int 0) (.cons (.int 3) .nil))) (.cons (.tup (.cons (.int 1) (.cons (.int 4) .nil))) (.cons (.tup (.cons (.int 2) (.cons (.int 4) .nil))) .nil)))))))))))))))
    (.cons (.ret (.prim .idx (.cons (.prim .add (.cons (.var 1) (.cons (.lst (.cons (.tup (.cons (.int 3) (.cons (.int 3) .nil))) (.cons (.tup (.cons (.int 3) (.cons (.int 4) .nil))) (.cons (.tup (.cons (.int 0) (.cons (.int 4) .nil))) (.cons (.tup (.cons (.int 4) (.cons (.int 4) .nil))) (.cons (.tup (.cons (.int 1) (.cons (.int 2) .nil))) (.cons (.tup (.cons (.int 1) (.cons (.int 1) .nil))) .nil))))))) .nil))) (.cons (.prim .mod (.cons (.var 0) (.cons (.int 19) .nil))) .nil))))
    .nil))
noncomputable def zha : Ss := (.cons (.ifs (.prim .nin (.cons (.var 7) (.cons (.var 3) .nil))) (.cons (.dset 3 (.var 7) (.var 6))
    (.cons (.app 5 (.var 7))
    .nil)) .nil)
    .nil)
noncomputable def zlH : Ss := (.cons (.for_ 7 false (.cons (.call 11 (.cons (.var 0) (.cons (.var 1) (.cons (.var 6) .nil)))) .nil) zha)
    .nil)
noncomputable def zlI : Ss := (.cons (.asg 5 (.lst .nil))
    (.cons (.forV 6 4 zlH)
    (.cons (.mov 4 5)
    .nil)))
noncomputable def zva : Ss := (.cons (.asg 3 (.done true (.var 2) .non))
    (.cons (.asg 4 (.lst (.cons (.var 2) .nil)))
    (.cons (.while_ (.prim .gt (.cons (.prim .len (.cons (.var 4) .nil)) (.cons (.int 0) .nil))) zlI)
    (.cons (.retV 3)
    .nil))))
noncomputable def zvb : Ss := (.cons (.ret (.prim .maxL (.cons (.comp true (.cons (.int 1) (.cons (.prim .add (.cons (.prim .idx (.cons (.var 0) (.cons (.int 1) .nil))) (.cons (.int 1) .nil))) .nil)) (.and (.prim .eq (.cons (.prim .mod (.cons (.prim .idx (.cons (.var 1) (.cons (.int 0) .nil))) (.cons (.var 0) .nil))) (.cons (.int 0) .nil))) (.prim .eq (.cons (.prim .mod (.cons (.prim .idx (.cons (.var 1) (.cons (.int 1) .nil))) (.cons (.var 0) .nil))) (.cons (.int 0) .nil)))) (.var 0)) .nil)))
    .nil)
noncomputable def zvc : Ss := (.cons (.asg 1 (.call 21 (.cons (.var 0) .nil)))
    (.cons (.ret (.prim .eq (.cons (.prim .mod (.cons (.prim .add (.cons (.prim .fdiv (.cons (.prim .idx (.cons (.var 0) (.cons (.int 0) .nil))) (.cons (.var 1) .nil))) (.cons (.prim .fdiv (.cons (.prim .idx (.cons (.var 0) (.cons (.int 1) .nil))) (.cons (.var 1) .nil))) .nil))) (.cons (.int 2) .nil))) (.cons (.int 1) .nil))))
    .nil))
noncomputable def zvd : Ss := (.cons (.asg 2 (.call 21 (.cons (.var 0) .nil)))
    (.cons (.asg 3 (.prim .fdiv (.cons (.prim .idx (.cons (.var 1) (.cons (.int 0) .nil))) (.cons (.var 2) .nil))))
    (.cons (.asg 4 (.prim .fdiv (.cons (.prim .idx (.cons (.var 1) (.cons (.int 1) .nil))) (.cons (.var 2) .nil))))
    (.cons (.ifs (.call 22 (.cons (.var 0) .nil)) (.cons (.ret (.prim .mod (.cons (.prim .add (.cons (.var 3) (.cons (.var 4) .nil))) (.cons (.int 2) .nil))))
    .nil) .nil)
    (.cons (.ret (.prim .mod (.cons (.var 3) (.cons (.int 2) .nil))))
    .nil)))))
noncomputable def zve : Ss := (.cons (.ret (.comp false (.cons (.var 0) .nil) (.prim .eq (.cons (.call 23 (.cons (.var 2) (.cons (.var 0) .nil))) (.cons (.var 3) .nil))) (.var 0)))
    .nil)
noncomputable def zvf : Ss := (.cons (.expr (.call 6 (.cons (.var 0) .nil)))
    (.cons (.expr (.call 7 (.cons (.var 1) .nil)))
    (.cons (.ret (.lst (.cons (.call 24 (.cons (.var 0) (.cons (.var 1) (.cons (.int 0) .nil)))) (.cons (.call 24 (.cons (.var 0) (.cons (.var 1) (.cons (.int 1) .nil)))) .nil))))
    .nil)))
noncomputable def zjg : Ss := (.cons (.ifs (.prim .nin (.cons (.var 4) (.cons (.var 3) .nil))) (.cons (.asg 5 (.call 20 (.cons (.var 0) (.cons (.var 1) (.cons (.var 4) .nil)))))
    (.cons (.dupd 3 5)
    (.cons (.app 2 (.prim .skeys (.cons (.var 5) .nil)))
    .nil))) .nil)
    .nil)
noncomputable def zvg : Ss := (.cons (.asg 2 (.lst .nil))
    (.cons (.asg 3 (.dnew true))
    (.cons (.forV 4 0 zjg)
    (.cons (.retV 2)
    .nil))))
noncomputable def zvh : Ss := (.cons (.expr (.call 6 (.cons (.var 0) .nil)))
    (.cons (.expr (.call 7 (.cons (.var 1) .nil)))
    (.cons (.ret (.call 30 (.cons (.var 0) (.cons (.var 1) .nil))))
    .nil)))
noncomputable def ze3 : Ss := (.cons (.ifs (.prim .nin (.cons (.var 5) (.cons (.var 4) .nil))) (.cons (.dset 4 (.var 5) (.bl true))
    (.cons (.ifO (.prim .nin (.cons (.var 5) (.cons (.var 2) .nil))) (.call 37 (.e (.var 0) (.e (.var 1) (.s 2 (.e (.prim .idx (.cons (.var 2) (.cons (.var 5) .nil))) (.s 4 .nil)))))) (.cons (.dset 2 (.var 3) (.var 5))
    (.cons (.dset 2 (.var 5) (.var 3))
    (.cons (.ret (.bl true))
    .nil))) .nil)
    .nil)) .nil)
    .nil)
noncomputable def zts : Ss := (.cons (.for_ 5 false (.cons (.call 11 (.cons (.var 0) (.cons (.var 1) (.cons (.var 3) .nil)))) .nil) ze3)
    (.cons (.ret (.bl false))
    .nil))
noncomputable def zlJ : Ss := (.cons (.exprM (.call 37 (.e (.var 0) (.e (.var 1) (.s 2 (.e (.var 3) (.n true .nil)))))))
    .nil)
noncomputable def zvi : Ss := (.cons (.asg 2 (.dnew true))
    (.cons (.for_ 3 false (.cons (.call 24 (.cons (.var 0) (.cons (.var 1) (.cons (.int 0) .nil)))) .nil) zlJ)
    (.cons (.retV 2)
    .nil)))
noncomputable def zvj : Ss := (.cons (.ret (.comp false (.cons (.var 0) .nil) (.and (.prim .inn (.cons (.var 0) (.cons (.var 2) .nil))) (.prim .lt (.cons (.var 0) (.cons (.prim .idx (.cons (.var 2) (.cons (.var 0) .nil))) .nil)))) (.tup (.cons (.var 0) (.cons (.prim .idx (.cons (.var 2) (.cons (.var 0) .nil))) .nil)))))
    .nil)
noncomputable def zjh : Ss := (.cons (.ifs (.prim .nin (.cons (.var 9) (.cons (.var 5) .nil))) (.cons (.app 5 (.var 9))
    (.cons (.app 7 (.prim .idx (.cons (.var 2) (.cons (.var 9) .nil))))
    .nil)) .nil)
    .nil)
noncomputable def zlK : Ss := (.cons (.for_ 9 false (.cons (.call 11 (.cons (.var 0) (.cons (.var 1) (.cons (.var 8) .nil)))) .nil) zjh)
    .nil)
noncomputable def zlL : Ss := (.cons (.asg 7 (.lst .nil))
    (.cons (.forV 8 6 zlK)
    (.cons (.asg 4 (.prim .add (.cons (.var 4) (.cons (.var 7) .nil))))
    (.cons (.mov 6 7)
    .nil))))
noncomputable def zvk : Ss := (.cons (.asg 4 (.comp false (.cons (.call 24 (.cons (.var 0) (.cons (.var 1) (.cons (.var 3) .nil)))) .nil) (.prim .nin (.cons (.var 0) (.cons (.var 3) .nil))) (.var 0)))
    (.cons (.asg 5 (.lst .nil))
    (.cons (.mov 6 4)
    (.cons (.while_ (.prim .gt (.cons (.prim .len (.cons (.var 6) .nil)) (.cons (.int 0) .nil))) zlL)
    (.cons (.frz [4, 5] (.ret (.tup (.cons (.var 4) (.cons (.var 5) .nil)))))
    .nil)))))
noncomputable def ztt : Ss := (.cons (.ifs (.prim .eq (.cons (.call 23 (.cons (.var 0) (.cons (.var 1) .nil))) (.cons (.int 0) .nil))) (.cons (.ret (.prim .nin (.cons (.var 1) (.cons (.var 2) .nil))))
    .nil) .nil)
    (.cons (.ret (.prim .inn (.cons (.var 1) (.cons (.var 3) .nil))))
    .nil))
noncomputable def zvl : Ss := (.cons (.expr (.call 6 (.cons (.var 0) .nil)))
    (.cons (.expr (.call 7 (.cons (.var 1) .nil)))
    (.cons (.asg 3 (.call 40 (.cons (.var 0) (.cons (.var 1) (.cons (.call 38 (.cons (.var 0) (.cons (.var 1) .nil))) (.cons (.int 0) .nil))))))
    (.cons (.ret (.comp false (.cons (.var 0) .nil) (.prim .eq (.cons (.call 41 (.cons (.var 2) (.cons (.var 0) (.cons (.prim .idx (.cons (.var 4) (.cons (.int 0) .nil))) (.cons (.prim .idx (.cons (.var 4) (.cons (.int 1) .nil))) .nil))))) (.cons (.var 3) .nil))) (.var 0)))
    .nil))))
noncomputable def zvm : Ss := (.cons (.expr (.call 6 (.cons (.var 0) .nil)))
    (.cons (.expr (.call 7 (.cons (.var 1) .nil)))
    (.cons (.ret (.call 39 (.cons (.var 0) (.cons (.call 38 (.cons (.var 0) (.cons (.var 1) .nil))) .nil))))
    .nil)))
noncomputable def zvn : Ss := (.cons (.ret (.call 42 (.cons (.var 0) (.cons (.var 1) (.cons (.bl false) .nil)))))
    .nil)
noncomputable def zvo : Ss := (.cons (.expr (.call 6 (.cons (.var 0) .nil)))
    (.cons (.expr (.call 7 (.cons (.var 1) .nil)))
    (.cons (.asg 2 (.call 38 (.cons (.var 0) (.cons (.var 1) .nil))))
    (.cons (.asg 3 (.comp false (.cons (.var 0) .nil) (.prim .nin (.cons (.var 0) (.cons (.var 3) .nil))) (.var 0)))
    (.cons (.ifs (.prim .eq (.cons (.prim .len (.cons (.var 3) .nil)) (.cons (.int 0) .nil))) (.cons (.ret (.tup (.cons (.str "paired") (.cons (.call 39 (.cons (.var 0) (.cons (.var 2) .nil))) .nil))))
    .nil) .nil)
    (.cons (.frz [2] (.asg 4 (.call 40 (.cons (.var 0) (.cons (.var 1) (.cons (.var 2) (.cons (.call 23 (.cons (.var 1) (.cons (.prim .idx (.cons (.var 3) (.cons (.int 0) .nil))) .nil))) .nil)))))))
    (.cons (.ret (.tup (.cons (.str "crowd") (.cons (.prim .sorted (.cons (.prim .idx (.cons (.var 4) (.cons (.int 0) .nil))) .nil)) .nil))))
    .nil)))))))
noncomputable def zvp : Ss := (.cons (.asg 1 (.call 15 (.cons (.var 0) (.cons (.int 2) (.cons (.int 24) .nil)))))
    (.cons (.asg 2 (.call 16 (.cons (.call 13 (.cons (.var 0) (.cons (.int 0) .nil))) .nil)))
    (.cons (.asg 3 (.prim .len (.cons (.call 43 (.cons (.var 1) (.cons (.var 2) .nil))) .nil)))
    (.cons (.asg 4 (.prim .len (.cons (.call 45 (.cons (.var 1) (.cons (.var 2) .nil))) .nil)))
    (.cons (.ifs (.or (.prim .ne (.cons (.prim .add (.cons (.var 3) (.cons (.var 4) .nil))) (.cons (.prim .len (.cons (.var 1) .nil)) .nil))) (.prim .gt (.cons (.prim .maxL (.cons (.comp false (.cons (.call 25 (.cons (.var 1) (.cons (.var 2) .nil))) .nil) (.bl true) (.prim .len (.cons (.var 0) .nil))) .nil)) (.cons (.var 4) .nil)))) (.cons (.ret (.bl false))
    .nil) .nil)
    (.cons (.ifs (.prim .ne (.cons (.prim .sumL (.cons (.comp false (.cons (.call 31 (.cons (.var 1) (.cons (.var 2) .nil))) .nil) (.bl true) (.prim .len (.cons (.call 43 (.cons (.prim .toTup (.cons (.var 0) .nil)) (.cons (.var 3) .nil))) .nil))) .nil)) (.cons (.var 3) .nil))) (.cons (.ret (.bl false))
    .nil) .nil)
    (.cons (.ifs (.prim .gt (.cons (.prim .len (.cons (.var 1) .nil)) (.cons (.int 1) .nil))) (.cons (.asg 5 (.prim .mod (.cons (.call 13 (.cons (.var 0) (.cons (.int 1) .nil))) (.cons (.prim .len (.cons (.var 1) .nil)) .nil))))
    (.cons (.asg 6 (.prim .addT (.cons (.prim .cutT (.cons (.var 1) (.cons (.var 5) .nil))) (.cons (.prim .cutF (.cons (.var 1) (.cons (.prim .add (.cons (.var 5) (.cons (.int 1) .nil))) .nil))) .nil))))
    (.cons (.ifs (.or (.not (.chain .le .le (.int 0) (.prim .sub (.cons (.var 3) (.cons (.prim .len (.cons (.call 43 (.cons (.var 6) (.cons (.var 2) .nil))) .nil)) .nil))) (.int 1))) (.not (.chain .le .le (.int 0) (.prim .sub (.cons (.var 4) (.cons (.prim .len (.cons (.call 45 (.cons (.var 6) (.cons (.var 2) .nil))) .nil)) .nil))) (.int 1)))) (.cons (.ret (.bl false))
    .nil) .nil)
    .nil))) .nil)
    (.cons (.asg 7 (.prim .toTup (.cons (.prim .sorted (.cons (.comp false (.cons (.var 1) .nil) (.bl true) (.tup (.cons (.prim .idx (.cons (.var 0) (.cons (.int 1) .nil))) (.cons (.prim .idx (.cons (.var 0) (.cons (.int 0) .nil))) .nil)))) .nil)) .nil)))
    (.cons (.ret (.and (.prim .eq (.cons (.prim .len (.cons (.call 43 (.cons (.var 7) (.cons (.var 2) .nil))) .nil)) (.cons (.var 3) .nil))) (.prim .eq (.cons (.prim .eqS (.cons (.prim .idx (.cons (.call 47 (.cons (.var 7) (.cons (.var 2) .nil))) (.cons (.int 0) .nil))) (.cons (.str "paired") .nil))) (.cons (.prim .eq (.cons (.prim .mul (.cons (.int 2) (.cons (.var 3) .nil))) (.cons (.prim .len (.cons (.var 1) .nil)) .nil))) .nil)))))
    .nil)))))))))
noncomputable def U : Nat → Option Fn
  | 0 => some ⟨3, 3, ir0, [], none⟩
  | 1 => some ⟨1, 1, ir1, [], none⟩
  | 2 => some ⟨1, 1, ir2, [], none⟩
  | 3 => some ⟨1, 1, ir3, [], none⟩
  | 4 => some ⟨1, 1, ir4, [], none⟩
  | 5 => some ⟨1, 1, ir5, [], none⟩
  | 6 => some ⟨1, 1, ir6, [], none⟩
  | 7 => some ⟨1, 1, ir7, [], none⟩
  | 9 => some ⟨2, 2, ir9, [], none⟩
  | 10 => some ⟨3, 3, zu4, [], none⟩
  | 11 => some ⟨3, 3, zu5, [], none⟩
  | 13 => some ⟨2, 2, zu6, [], none⟩
  | 14 => some ⟨3, 3, zu7, [], none⟩
  | 15 => some ⟨3, 13, zu8, [], none⟩
  | 16 => some ⟨1, 2, zu9, [], none⟩
  | 20 => some ⟨3, 8, zva, [], none⟩
  | 21 => some ⟨1, 1, zvb, [], none⟩
  | 22 => some ⟨1, 2, zvc, [], none⟩
  | 23 => some ⟨2, 5, zvd, [], none⟩
  | 24 => some ⟨3, 3, zve, [], none⟩
  | 25 => some ⟨2, 2, zvf, [], none⟩
  | 30 => some ⟨2, 6, zvg, [], none⟩
  | 31 => some ⟨2, 2, zvh, [], none⟩
  | 37 => some ⟨5, 6, zts, [2, 4], none⟩
  | 38 => some ⟨2, 4, zvi, [], none⟩
  | 39 => some ⟨2, 2, zvj, [], none⟩
  | 40 => some ⟨4, 10, zvk, [], none⟩
  | 41 => some ⟨4, 4, ztt, [], none⟩
  | 42 => some ⟨3, 4, zvl, [], none⟩
  | 43 => some ⟨2, 2, zvm, [], none⟩
  | 45 => some ⟨2, 2, zvn, [], none⟩
  | 47 => some ⟨2, 5, zvo, [], none⟩
  | 52 => some ⟨1, 8, zvp, [], none⟩
  | _ => none
theorem U0 : U 0 = some ⟨3, 3, ir0, [], none⟩ := rfl
theorem U1 : U 1 = some ⟨1, 1, ir1, [], none⟩ := rfl
theorem U2 : U 2 = some ⟨1, 1, ir2, [], none⟩ := rfl
theorem U3 : U 3 = some ⟨1, 1, ir3, [], none⟩ := rfl
theorem U4 : U 4 = some ⟨1, 1, ir4, [], none⟩ := rfl
theorem U5 : U 5 = some ⟨1, 1, ir5, [], none⟩ := rfl
theorem U6 : U 6 = some ⟨1, 1, ir6, [], none⟩ := rfl
theorem U7 : U 7 = some ⟨1, 1, ir7, [], none⟩ := rfl
theorem U9 : U 9 = some ⟨2, 2, ir9, [], none⟩ := rfl
theorem U10 : U 10 = some ⟨3, 3, zu4, [], none⟩ := rfl
theorem U11 : U 11 = some ⟨3, 3, zu5, [], none⟩ := rfl
theorem U13 : U 13 = some ⟨2, 2, zu6, [], none⟩ := rfl
theorem U14 : U 14 = some ⟨3, 3, zu7, [], none⟩ := rfl
theorem U15 : U 15 = some ⟨3, 13, zu8, [], none⟩ := rfl
theorem U16 : U 16 = some ⟨1, 2, zu9, [], none⟩ := rfl
theorem U20 : U 20 = some ⟨3, 8, zva, [], none⟩ := rfl
theorem U21 : U 21 = some ⟨1, 1, zvb, [], none⟩ := rfl
theorem U22 : U 22 = some ⟨1, 2, zvc, [], none⟩ := rfl
theorem U23 : U 23 = some ⟨2, 5, zvd, [], none⟩ := rfl
theorem U24 : U 24 = some ⟨3, 3, zve, [], none⟩ := rfl
theorem U25 : U 25 = some ⟨2, 2, zvf, [], none⟩ := rfl
theorem U30 : U 30 = some ⟨2, 6, zvg, [], none⟩ := rfl
theorem U31 : U 31 = some ⟨2, 2, zvh, [], none⟩ := rfl
theorem U37 : U 37 = some ⟨5, 6, zts, [2, 4], none⟩ := rfl
theorem U38 : U 38 = some ⟨2, 4, zvi, [], none⟩ := rfl
theorem U39 : U 39 = some ⟨2, 2, zvj, [], none⟩ := rfl
theorem U40 : U 40 = some ⟨4, 10, zvk, [], none⟩ := rfl
theorem U41 : U 41 = some ⟨4, 4, ztt, [], none⟩ := rfl
theorem U42 : U 42 = some ⟨3, 4, zvl, [], none⟩ := rfl
theorem U43 : U 43 = some ⟨2, 2, zvm, [], none⟩ := rfl
theorem U45 : U 45 = some ⟨2, 2, zvn, [], none⟩ := rfl
theorem U47 : U 47 = some ⟨2, 5, zvo, [], none⟩ := rfl
theorem U52 : U 52 = some ⟨1, 8, zvp, [], none⟩ := rfl
end LK
namespace LK
open L2.LW
noncomputable def zat : Nat := 100000
noncomputable abbrev call (n i : Nat) (ds : List D) : Option SV := za1 U zat n i ds
theorem zaw {n i : Nat} {F : Fn} {ds : List D} (h : U i = some F) (hl : ds.length = F.np) (hio : F.io = [] := by rfl) (hx : F.xb = none := by rfl) :
    za1 U zat (n + 1) i ds = zou (zaS (zas U zat n) zat F.body (ds.map (fun d => some (.val d)) ++ List.replicate (F.nl - F.np) none)) := zmB h hl hio hx
noncomputable abbrev zah := Int × Int
noncomputable def cD (c : zah) : D := .tup [.int c.1, .int c.2]
noncomputable def fD (f : List zah) : D := .tup (f.map cD)
noncomputable def lD (f : List zah) : D := .lst (f.map cD)
@[simp] theorem zw1 {c : zah} : plain (cD c) = true := by simp [cD]
@[simp] theorem ze4 : ∀ {l : List zah}, zbA (l.map cD) = true
  | [] => by simp
  | c :: r => by simp [ze4 (l := r)]
@[simp] theorem zkF {c : zah} {n : Nat} : zb5 (n + 1) (cD c) = true := by simp [cD, zb5]
@[simp] theorem zhb {n : Nat} {l : List zah} : (l.map cD).all (zb5 (n + 1)) = true := by
  rw [List.all_map, List.all_eq_true]; intro x _; exact zkF
@[simp] theorem zji {a b : zah} : eqD (cD a) (cD b) = decide (a = b) := by
  rw [Bool.eq_iff_iff]
  obtain ⟨a1, a2⟩ := a; obtain ⟨b1, b2⟩ := b
  simp [cD, eqD, zli]
@[simp] theorem zjj {c : zah} {l : List zah} : ((l.map cD).any fun y => eqD y (cD c)) = decide (c ∈ l) := by
  rw [Bool.eq_iff_iff]
  simp [List.any_map, List.any_eq_true]
theorem zdZ (n : Nat) (i a b : Int) : za1 U zat (n + 1) 0 [.int i, .int a, .int b] = some (.val (.bl (decide (a ≤ i) && decide (i ≤ b)))) := by
  rw [zaw U0 rfl]
  simp [ir0]
  by_cases h : a ≤ i <;> simp [h]
theorem ze5 (n : Nat) (c : zah) : za1 U zat (n + 1) 1 [cD c] = some (.val (.bl true)) := by
  rw [zaw U1 rfl]
  simp [ir1, cD]
noncomputable def okC (c : zah) : Prop := 0 ≤ c.1 ∧ c.1 ≤ 7 ∧ 0 ≤ c.2 ∧ c.2 ≤ 7
theorem zmD (n : Nat) {c : zah} (h : okC c) : za1 U zat (n + 2) 2 [cD c] = some (.val (.bl true)) := by
  rw [zaw U2 rfl]
  obtain ⟨h1, h2, h3, h4⟩ := h
  have h0 := ze5 n c
  simp [ir2, h0, zdZ]
  simp [cD, zdZ, h1, h2, h3, h4]
noncomputable def cLt (a b : zah) : Prop := a.1 < b.1 ∨ (a.1 = b.1 ∧ a.2 < b.2)
noncomputable instance (a b : zah) : Decidable (cLt a b) := by unfold cLt; exact inferInstance
@[simp] theorem zzC {a b : zah} : zal .lt [cD a, cD b] = some (.val (.bl (decide (cLt a b)))) := by
  simp only [cD, zal, pLt, ints?, Option.map_some, Option.bind_some, zeX, lexLt]
  congr 3
  rw [Bool.eq_iff_iff]
  simp only [cLt]
  by_cases h : a.1 = b.1
  · simp [h]
    by_cases h2 : a.2 = b.2
    · simp [h2]
    · simp [h2]
  · simp [h]
theorem zjk {a b c : zah} (h : cLt a b) (h' : cLt b c) : cLt a c := by
  unfold cLt at *; omega
theorem zhc {a : zah} : ¬ cLt a a := by unfold cLt; omega
theorem zjl {a b : zah} (h : cLt a b) (h' : cLt b a) : False := zhc (zjk h h')
theorem zjm {a b : zah} (h : a ≠ b) : cLt a b ∨ cLt b a := by
  unfold cLt
  have : a.1 ≠ b.1 ∨ a.2 ≠ b.2 := by
    by_cases h1 : a.1 = b.1
    · right; intro h2; exact h (Prod.ext h1 h2)
    · exact .inl h1
  omega
structure OkF (f : List zah) : Prop where
  ne : f ≠ []
  len : f.length ≤ 24
  cells : ∀ c ∈ f, okC c
  rise : f.Pairwise cLt
theorem OkF.nodup {f : List zah} (h : f.Pairwise cLt) : f.Nodup := h.imp fun hab e => by subst e; exact zhc hab
theorem zbg : (100000 : Nat) ≤ line := by decide
theorem zjn {α : Type} {f : α → Bool} : ∀ {l : List α}, bools? (l.map fun x => D.bl (f x)) = some (l.map f)
  | [] => rfl
  | x :: r => by simp [bools?, zjn (l := r)]
theorem zjo {α : Type} {f : α → Bool} {l : List α} : zal .all [.lst (l.map fun x => D.bl (f x))] = some (.val (.bl (l.all f))) := by
  simp [zal, zwl, zjn, List.all_map, Function.comp_def]
theorem zmE (n : Nat) {l : zah} (h : 0 ≤ l.1 ∧ l.1 ≤ l.2 ∧ 1 ≤ l.2 ∧ l.2 ≤ 4) : za1 U zat (n + 2) 3 [cD l] = some (.val (.bl true)) := by
  rw [zaw U3 rfl]
  obtain ⟨h1, h2, h3, h4⟩ := h
  have h0 := ze5 n l
  simp [ir3, h0]
  simp [cD, zdZ, h1, h2, h3, h4]
theorem zcE {i : Int} (h : 0 ≤ i) (h' : i ≤ 1000000) : inR i := by unfold inR; omega
theorem zhd {a b : Int} (h : inR a ∧ inR b) : za0 true [.val (.int a), .val (.int b)] = some ((List.range (b - a).toNat).map fun (k : Nat) => D.int (a + (k : Int))) := by simp [za0, h]
theorem zhe {a : Int} (h : inR a) : za0 true [.val (.int a)] = some ((List.range a.toNat).map fun (k : Nat) => D.int (0 + (k : Int))) := by simp [za0, h]
@[simp] theorem zvq {o : Bool} {l : List D} : za0 false [.obj o (.lst l)] = some l := id rfl
theorem zlM {f : List zah} {k : Nat} (h : k < f.length) : zal .idx [fD f, .int (k : Int)] = some (.val (cD f[k])) := by
  rw [fD, zu3, atI_nat (by simpa using h)]; simp
theorem zjp (n : Nat) {f : List zah} (hl : f.length ≤ 1000) (h : f.Pairwise cLt) : za1 U zat (n + 1) 4 [fD f] = some (.val (.bl true)) := by
  rw [zaw U4 rfl]
  have hl' := zbg
  have e3 : ((f.length : Int) - 1).toNat = f.length - 1 := by omega
  simp only [ir4]
  simp
  rw [zcD (rs := [.val (.int 1), .val (.int f.length)]) (xs := List.range (f.length - 1)) (f := fun (k : Nat) => D.int (1 + (k : Int))) (fun _ => .bl true)]
  · simp [zjo]
  · simp [fD]
  · rw [zhd ⟨zcE (by omega) (by omega), zcE (by omega) (by omega)⟩, e3]
  · simp; omega
  · intro k hk
    rw [List.mem_range] at hk
    have e1 : (1 + (k : Int) - 1) = (k : Int) := by omega
    have e2 : (1 + (k : Int)) = ((k + 1 : Nat) : Int) := by omega
    have hk1 : k < f.length := by omega
    have hk2 : k + 1 < f.length := by omega
    have := List.pairwise_iff_getElem.mp h k (k + 1) hk1 hk2 (by omega)
    simp [e1]
    rw [zlM hk1, e2, zlM hk2]
    simp [this]
@[simp] theorem zw2 {f : List zah} : ziP .tuple (fD f) = true := id rfl
theorem zsI {f : List zah} : zal .len [fD f] = some (.val (.int f.length)) := by simp [fD]
theorem zkG (n : Nat) {f : List zah} (h : OkF f) : za1 U zat (n + 3) 5 [fD f] = some (.val (.bl true)) := by
  rw [zaw U5 rfl]
  have hl' := zbg
  have h1 := h.len
  have h2 : 1 ≤ f.length := by have := h.ne; cases f <;> simp_all
  have hr := zjp (n + 1) (by omega) h.rise
  simp -implicitDefEqProofs only [ir5]
  simp -implicitDefEqProofs [zsI, show (1 : Int) ≤ f.length by omega, show (f.length : Int) ≤ 24 by omega, hr]
  rw [zcD (rs := [.val (fD f)]) (xs := f) (f := cD) (fun _ => .bl true)]
  · simp -implicitDefEqProofs [zjo, fD]
  · simp
  · rfl
  · omega
  · intro c hc
    simp -implicitDefEqProofs [zmD n (h.cells c hc)]
theorem zcF (n : Nat) {f : List zah} (h : OkF f) : za1 U zat (n + 4) 6 [fD f] = some (.val (fD f)) := by
  rw [zaw U6 rfl]
  simp [ir6, zkG n h]
structure OkL (l : zah) : Prop where
  a : 0 ≤ l.1
  b : l.1 ≤ l.2
  c : 1 ≤ l.2
  d : l.2 ≤ 4
theorem zbo (n : Nat) {l : zah} (h : OkL l) : za1 U zat (n + 3) 7 [cD l] = some (.val (cD l)) := by
  rw [zaw U7 rfl]
  simp [ir7, zmE n ⟨h.a, h.b, h.c, h.d⟩]
theorem zye {c : zah} {f : List zah} : zal .inn [cD c, lD f] = some (.val (.bl (decide (c ∈ f)))) := by
  simp only [lD, zal, pIn, zkF, zhb, Bool.and_self, if_true, zjj, zeX]
theorem zoz {c : zah} {f : List zah} : zal .nin [cD c, lD f] = some (.val (.bl (!decide (c ∈ f)))) := by
  simp only [lD, zal, zqW, zkF, zhb, Bool.and_self, if_true, zjj, zeX]
noncomputable def ziE (i : Int) : Int := if i < 0 then -i else i
noncomputable def zeQ (l a b : zah) : Bool := decide ((min (ziE (a.1 - b.1)) (ziE (a.2 - b.2)), max (ziE (a.1 - b.1)) (ziE (a.2 - b.2))) = l)
theorem zee (a b : Int) : ziE (a - b) = ziE (b - a) := by unfold ziE; split <;> split <;> omega
theorem zbt (l a b : zah) : zeQ l a b = zeQ l b a := by unfold zeQ; rw [zee a.1, zee a.2]
@[simp] theorem zzW {c : zah} : zal .idx [cD c, .int 0] = some (.val (.int c.1)) := id rfl
@[simp] theorem zzX {c : zah} : zal .idx [cD c, .int 1] = some (.val (.int c.2)) := id rfl
theorem zyf {a b : zah} : zal .eq [cD a, cD b] = some (.val (.bl (decide (a = b)))) := by rw [zyd (by simp) (by simp), zji]
noncomputable def zyg (x y : Int) : zah := (min (ziE x) (ziE y), max (ziE x) (ziE y))
theorem zoA (n : Nat) (x y : Int) : za1 U zat (n + 1) 9 [.int x, .int y] = some (.val (cD (zyg x y))) := by
  rw [zaw U9 rfl]
  have e : ∀ x y : Int, D.tup [.int (if y < x then y else x), .int (if y > x then y else x)] = cD (min x y, max x y) := by
    intro x y
    have e1 : (if y < x then y else x) = min x y := by split <;> omega
    have e2 : (if y > x then y else x) = max x y := by split <;> omega
    rw [e1, e2]; rfl
  simp [ir9, -zrm, -zrn]
  simp only [zrm, zrn, Option.bind_some, ziR, toD, Option.map_some, Function.comp_apply]
  simp
  rw [e]
  rfl
theorem zoB (l a b : zah) : decide (zyg (b.1 - a.1) (b.2 - a.2) = l) = zeQ l a b := by
  unfold zeQ zyg; rw [zee a.1, zee a.2]
theorem zkH (n : Nat) (l a b : zah) : za1 U zat (n + 2) 10 [cD l, cD a, cD b] = some (.val (.bl (zeQ l a b))) := by
  rw [zaw U10 rfl]
  simp [zu4, zoA, zyf, zoB]
theorem zcT (n : Nat) (l c : zah) {f : List zah} (h : f.length ≤ 1000) : za1 U zat (n + 3) 11 [fD f, cD l, cD c] = some (.obj true (.lst ((f.filter (zeQ l c)).map cD))) := by
  rw [zaw U11 rfl]
  have hl' := zbg
  simp only [zu5]
  simp
  rw [zb1 (rs := [.val (fD f)]) (xs := f) (f := cD) (zeQ l c) cD]
  · simp
  · simp
  · rfl
  · omega
  · intro x _; simp [zkH]
  · intro x _ _; simp
end LK
namespace LK
open L2.LW
noncomputable def sm (a : Int) : Prop := -(2 ^ 64) < a ∧ a < 2 ^ 64
theorem zsJ {a : Int} (h : -1000000 ≤ a) (h' : a ≤ 1000000) : sm a := by unfold sm; omega
theorem zoC {a b : Int} (h : sm b) : zal .mul [.int a, .int b] = some (.val (.int (a * b))) := zu1 h
noncomputable def sD (ns : List Int) : D := .lst (ns.map D.int)
noncomputable def ze6 (ns : List Int) (k : Int) : Int := ns.getD k.toNat 0
theorem zbU (n : Nat) (ns : List Int) {k : Int} (h : 0 ≤ k) : za1 U zat (n + 1) 13 [sD ns, .int k] = some (.val (.int (ze6 ns k))) := by
  rw [zaw U13 rfl]
  obtain ⟨j, rfl⟩ := Int.eq_ofNat_of_zero_le h
  simp only [zu6]
  by_cases hj : j < ns.length
  · have hj' : (j : Int) < (ns.length : Int) := by omega
    simp [sD, hj']
    rw [zoy, atI_nat (by simpa using hj)]
    simp [ze6, hj]
  · have hj' : ¬ (j : Int) < (ns.length : Int) := by omega
    simp [sD, hj']
    simp [ze6, List.getElem?_eq_none (by omega : ns.length ≤ j)]
theorem zbV (n : Nat) (x : Int) {p m : Int} (h : 0 < p) (h' : 0 < m) : za1 U zat (n + 1) 14 [.int x, .int p, .int m] = some (.val (.int (x * 48271 % p % m))) := by
  rw [zaw U14 rfl]
  simp [zu7, zoC (zsJ (a := 48271) (by decide) (by decide)), zhT h, zhT h']
structure Built (down right wide : Int) (r k : Int) (fs : List zah) : Prop where
  rise : fs.Pairwise cLt
  at_ : ∀ x ∈ fs, down ≤ x.1 ∧ right ≤ x.2 ∧ x.2 < right + wide ∧ (x.1 < down + r ∨ (x.1 = down + r ∧ x.2 < right + k))
theorem Built.next {down right wide r k : Int} {fs : List zah} (b : Built down right wide r k fs) (hk : 0 ≤ k) (hw : k < wide) (hr : 0 ≤ r) : Built down right wide r (k + 1) (fs ++ [(down + r, right + k)]) := by
  refine ⟨?_, fun x hx => ?_⟩
  · rw [List.pairwise_append]
    refine ⟨b.rise, by simp, fun x hx y hy => ?_⟩
    simp only [List.mem_singleton] at hy
    subst hy
    have := b.at_ x hx
    unfold cLt; simp only; omega
  · rw [List.mem_append, List.mem_singleton] at hx
    rcases hx with hx | rfl
    · have := b.at_ x hx; omega
    · show down ≤ down + r ∧ right ≤ right + k ∧ right + k < right + wide ∧ (down + r < down + r ∨ (down + r = down + r ∧ right + k < right + (k + 1)))
      omega
theorem Built.skip {down right wide r k : Int} {fs : List zah} (b : Built down right wide r k fs) : Built down right wide r (k + 1) fs :=
  ⟨b.rise, fun x hx => by have := b.at_ x hx; omega⟩
theorem Built.row {down right wide r : Int} {fs : List zah} (b : Built down right wide r wide fs) : Built down right wide (r + 1) 0 fs :=
  ⟨b.rise, fun x hx => by have := b.at_ x hx; omega⟩
theorem zzD (a b c : D) {w : Int} (h : w = 0 ∨ w = 1 ∨ w = 2) : ∃ d, (d = a ∨ d = b ∨ d = c) ∧ zal .idx [.lst [a, b, c], .int w] = some (.val d) := by
  rcases h with rfl | rfl | rfl
  · exact ⟨a, .inl rfl, rfl⟩
  · exact ⟨b, .inr (.inl rfl), rfl⟩
  · exact ⟨c, .inr (.inr rfl), rfl⟩
@[simp] theorem ztu {fs : List zah} {a b : Int} : fs.map cD ++ [.tup [.int a, .int b]] = (fs ++ [(a, b)]).map cD := by simp [cD]
theorem zkI (n : Nat) (ns : List Int) {at_ most x rows wide down right way r k : Int} {j12 : Option SV} {fs : List zah} (h0 : 0 ≤ at_) (hr : 0 ≤ r ∧ r ≤ 1000) (hk : 0 ≤ k ∧ k ≤ 1000) (hw : 0 ≤ way ∧ way < 4) (hl : fs.length ≤ 1000) (hj : za7 (some j12) = true) :
    ∃ v fs', za7 (some v) = true ∧ zaS (zas U zat (n + 1)) zat zlG [some (.val (sD ns)), some (.val (.int at_)), some (.val (.int most)), some (.val (.int x)), some (.val (.int rows)), some (.val (.int wide)), some (.val (.int down)), some (.val (.int right)), some (.val (.int way)),
      some (.obj true (.lst (fs.map cD))), some (.val (.int r)), some (.val (.int k)), j12] =
      some (.nx, [some (.val (sD ns)), some (.val (.int at_)), some (.val (.int most)), some (.val (.int x)), some (.val (.int rows)), some (.val (.int wide)), some (.val (.int down)), some (.val (.int right)), some (.val (.int way)),
      some (.obj true (.lst (fs'.map cD))), some (.val (.int r)), some (.val (.int k)), v]) ∧ (fs' = fs ∨ fs' = fs ++ [(down + r, right + k)]) := by
  have m1 : sm r := zsJ (by omega) (by omega)
  have m2 : sm k := zsJ (by omega) (by omega)
  have h7 : (0 : Int) < 7 := by decide
  have hi : 0 ≤ at_ + 2 + (r + 2 * k) % 7 := by omega
  have hl' := zbg
  have hl2 : fs.length < line := by omega
  simp only [zlG]
  simp [zoC m1, zoC m2, zhT h7, zbU n ns hi, hj]
  by_cases hz : way = 0
  · simp [hz, hl2]
    exact ⟨_, zbl, fs ++ [(down + r, right + k)], by simp; rfl, .inr rfl⟩
  · obtain ⟨d, hd, e⟩ := zzD (.int 2) (.int 4) (.int 7) (w := way - 1) (by omega)
    simp [hz, e]
    have key : ∃ m, d = .int m ∧ 0 < m := by
      rcases hd with rfl | rfl | rfl
      · exact ⟨_, rfl, by decide⟩
      · exact ⟨_, rfl, by decide⟩
      · exact ⟨_, rfl, by decide⟩
    obtain ⟨m, rfl, hm⟩ := key
    simp [zbV n _ (show (0 : Int) < 9931 by decide) hm]
    split
    · simp [hl2]
      exact ⟨_, zbl, fs ++ [(down + r, right + k)], by simp; rfl, .inr rfl⟩
    · exact ⟨_, zbl, fs, rfl, .inl rfl⟩
noncomputable def flE (ns : List Int) (at_ most x rows wide down right way : Int) (fs : List zah) (a b c : Option SV) : Env :=
  [some (.val (sD ns)), some (.val (.int at_)), some (.val (.int most)), some (.val (.int x)), some (.val (.int rows)), some (.val (.int wide)), some (.val (.int down)), some (.val (.int right)), some (.val (.int way)), some (.obj true (.lst (fs.map cD))), a, b, c]
theorem zoD (n : Nat) (ns : List Int) {at_ most x rows wide down right way : Int} {r : Nat} {fs : List zah} {b c : Option SV} (h0 : 0 ≤ at_) (hr : r ≤ 100) (hw : 0 ≤ wide ∧ wide ≤ 6) (hy : 0 ≤ way ∧ way < 4) (hl : fs.length ≤ 6 * r) (hb : Built down right wide r 0 fs) (fb : za7 (some b) = true) (fc : za7 (some c) = true) :
    ∃ a' b' c' fs', (za7 (some a') = true ∧ za7 (some b') = true ∧ za7 (some c') = true) ∧ zaS (zas U zat (n + 1)) zat zjf (flE ns at_ most x rows wide down right way fs (some (.val (.int r))) b c) = some (.nx, flE ns at_ most x rows wide down right way fs' a' b' c') ∧ fs'.length ≤ 6 * (r + 1) ∧ Built down right wide (r + 1 : Nat) 0 fs' := by
  obtain ⟨ρ', h1, b', c', fs', fr, rfl, h2, h3⟩ := zlF (i := 11) (a := 0) (m := wide.toNat) (body := zaS (zas U zat (n + 1)) zat zlG)
    (fun k ρ => ∃ b' c' fs', (za7 (some b') = true ∧ za7 (some c') = true) ∧ ρ = flE ns at_ most x rows wide down right way fs' (some (.val (.int r))) b' c' ∧ fs'.length ≤ 6 * r + k ∧ Built down right wide r (k : Int) fs') (ρ := flE ns at_ most x rows wide down right way fs (some (.val (.int r))) b c)
    ⟨b, c, fs, ⟨fb, fc⟩, rfl, by omega, hb⟩ fun k ρ hk zz3 => by
      obtain ⟨b', c', fs', fr, e, h2, h3⟩ := zz3
      subst e
      obtain ⟨v, fs2, fv, e1, e2⟩ := zkI n ns (at_ := at_) (most := most) (x := x) (rows := rows) (wide := wide) (down := down) (right := right) (way := way) (r := r) (k := 0 + (k : Int)) (j12 := c') (fs := fs') h0 (by omega) (by omega) hy (by omega) fr.2
      refine ⟨_, _, e1, .inl rfl, _, v, fs2, ⟨zbl, fv⟩, rfl, ?_⟩
      rw [Int.zero_add] at e2
      rcases e2 with rfl | rfl
      · exact ⟨by omega, h3.skip⟩
      · exact ⟨by simp; omega, h3.next (by omega) (by omega) (by omega)⟩
  refine ⟨some (.val (.int r)), b', c', fs', ⟨zbl, fr.1, fr.2⟩, ?_, by omega, ?_⟩
  · simp only [zjf, zdj, zeO, zjc, zlC, zoq, zor]
    rw [show (flE ns at_ most x rows wide down right way fs (some (.val (.int r))) b c)[11]? = some b from rfl, fb, show look (flE ns at_ most x rows wide down right way fs (some (.val (.int r))) b c) 5 = some (.val (.int wide)) from rfl]
    simp [zhe (zcE hw.1 (by omega : wide ≤ 1000000))]
    rw [show (List.map (fun (k : Nat) => D.int (k : Int)) (List.range wide.toNat)) = (List.range wide.toNat).map fun (k : Nat) => D.int (0 + (k : Int)) by simp, h1]
    simp
  · have e : (wide.toNat : Int) = wide := by omega
    rw [e] at h3
    have := h3.row
    simpa using this
theorem zoE (n : Nat) (ns : List Int) {at_ most x rows wide down right way : Int} {a b c : Option SV} (h0 : 0 ≤ at_) (hr : 0 ≤ rows ∧ rows ≤ 5) (hw : 0 ≤ wide ∧ wide ≤ 6) (hy : 0 ≤ way ∧ way < 4) (fa : za7 (some a) = true) (fb : za7 (some b) = true) (fc : za7 (some c) = true) :
    ∃ a' b' c' fs', exS (zas U zat (n + 1)) zat (.for_ 10 true (.cons (.var 4) .nil) zjf) (flE ns at_ most x rows wide down right way [] a b c) = some (.nx, flE ns at_ most x rows wide down right way fs' a' b' c') ∧ Built down right wide rows 0 fs' ∧ fs'.length ≤ 30 := by
  obtain ⟨ρ', h1, a', b', c', fs', fr, rfl, h2, h3⟩ := zlF (i := 10) (a := 0) (m := rows.toNat) (body := zaS (zas U zat (n + 1)) zat zjf)
    (fun k ρ => ∃ a' b' c' fs', (za7 (some a') = true ∧ za7 (some b') = true ∧ za7 (some c') = true) ∧ ρ = flE ns at_ most x rows wide down right way fs' a' b' c' ∧ fs'.length ≤ 6 * k ∧ Built down right wide (k : Int) 0 fs') (ρ := flE ns at_ most x rows wide down right way [] a b c)
    ⟨a, b, c, [], ⟨fa, fb, fc⟩, rfl, by simp, ⟨by simp, by simp⟩⟩ fun k ρ hk zz3 => by
      obtain ⟨a', b', c', fs', fr, e, h2, h3⟩ := zz3
      subst e
      obtain ⟨a2, b2, c2, fs2, fr2, e1, e2, e3⟩ := zoD n ns (at_ := at_) (most := most) (x := x) (rows := rows) (wide := wide) (down := down) (right := right) (way := way) (r := k) (fs := fs') (b := b') (c := c') h0 (by omega) hw hy h2 h3 fr.2.1 fr.2.2
      refine ⟨_, _, ?_, .inl rfl, a2, b2, c2, fs2, fr2, rfl, e2, e3⟩
      rw [Int.zero_add]
      exact e1
  refine ⟨a', b', c', fs', ?_, ?_, by omega⟩
  · simp only [zeO, zjc, zlC, zoq, zor]
    rw [show (flE ns at_ most x rows wide down right way [] a b c)[10]? = some a from rfl, fa, show look (flE ns at_ most x rows wide down right way [] a b c) 4 = some (.val (.int rows)) from rfl]
    simp [zhe (zcE hr.1 (by omega : rows ≤ 1000000))]
    rw [show (List.map (fun (k : Nat) => D.int (k : Int)) (List.range rows.toNat)) = (List.range rows.toNat).map fun (k : Nat) => D.int (0 + (k : Int)) by simp, h1]
  · have e : (rows.toNat : Int) = rows := by omega
    rw [e] at h3
    exact h3
theorem zrp {fs : List zah} {k : Int} (h : 0 ≤ k) : zal .cutTo [.lst (fs.map cD), .int k] = some (.obj true (.lst ((fs.take k.toNat).map cD))) := by
  simp [zal, zlj, h]
noncomputable def zyh (f : List zah) : Prop := ∃ d : Int, ∀ c ∈ f, d ≤ c.1 ∧ c.1 < d + 5
theorem zhU (n : Nat) (ns : List Int) {at_ most : Int} (h0 : 0 ≤ at_) (hm : 1 ≤ most) (hm2 : most ≤ 24) : ∃ f, OkF f ∧ (f.length : Int) ≤ most ∧ zyh f ∧ za1 U zat (n + 2) 15 [sD ns, .int at_, .int most] = some (.val (fD f)) := by
  rw [zaw U15 rfl]
  simp only [zu8]
  have p5 : (0 : Int) < 5 := by decide
  have p6 : (0 : Int) < 6 := by decide
  have p4 : (0 : Int) < 4 := by decide
  have q1 : (0 : Int) < 9973 := by decide
  have q2 : (0 : Int) < 9967 := by decide
  have q3 : (0 : Int) < 9949 := by decide
  have q4 : (0 : Int) < 9941 := by decide
  have q5 : (0 : Int) < 9907 := by decide
  have h1 : 0 ≤ at_ + 1 := by omega
  simp [zbU n ns h0, zbU n ns h1, zbV n _ q1 p5, zbV n _ q2 p6, zbV n _ q5 p4]
  generalize hx : ze6 ns at_ = x
  generalize hrows : 1 + x * 48271 % 9973 % 5 = rows
  generalize hwide : 1 + x * 48271 % 9967 % 6 = wide
  have hr9 : 0 < 9 - rows := by omega
  have hw9 : 0 < 9 - wide := by omega
  simp [zbV n _ q3 hr9, zbV n _ q4 hw9, zbU n ns h1, zbV n _ q5 p4]
  generalize hdown : ze6 ns (at_ + 1) * 48271 % 9949 % (9 - rows) = down
  generalize hright : ze6 ns (at_ + 1) * 48271 % 9941 % (9 - wide) = right
  generalize hway : (x + 3) * 48271 % 9907 % 4 = way
  have bw : 0 ≤ way ∧ way < 4 := by omega
  have bd : 0 ≤ down ∧ down < 9 - rows := by rw [← hdown]; exact ⟨Int.emod_nonneg _ (by omega), Int.emod_lt_of_pos _ hr9⟩
  have br : 0 ≤ right ∧ right < 9 - wide := by rw [← hright]; exact ⟨Int.emod_nonneg _ (by omega), Int.emod_lt_of_pos _ hw9⟩
  obtain ⟨a', b', c', fs, e1, hb, hl⟩ := zoE n ns (at_ := at_) (most := most) (x := x) (rows := rows) (wide := wide) (down := down) (right := right) (way := way) (a := none) (b := none) (c := none) h0 (by omega) (by omega) bw rfl rfl rfl
  have e1' := e1
  simp only [flE, List.map_nil] at e1'
  have hok : ∀ c ∈ fs, okC c := fun c hc => by
    have := hb.at_ c hc
    unfold okC; omega
  by_cases hf : fs = []
  · subst hf
    refine ⟨[(down, right)], ⟨by simp, by simp, fun c hc => ?_, by simp⟩, by simp; omega, ⟨down, fun c hc => ?_⟩, ?_⟩
    · simp at hc; subst hc; unfold okC; simp only; omega
    · simp at hc; subst hc; simp only; omega
    · simp [e1']
      rw [show D.tup [.int down, .int right] = cD (down, right) from rfl, show ([cD (down, right)] : List D) = [(down, right)].map cD from rfl, zrp (by omega)]
      rw [List.take_of_length_le (by simp; omega)]
      simp [fD]
  · refine ⟨fs.take most.toNat, ⟨fun h => ?_, ?_, fun c hc => hok c (List.mem_of_mem_take hc), hb.rise.sublist (List.take_sublist _ _)⟩, ?_, ⟨down, fun c hc => ?_⟩, ?_⟩
    · rw [List.take_eq_nil_iff] at h
      rcases h with h | h
      · omega
      · exact hf h
    · rw [List.length_take]; omega
    · rw [List.length_take]; omega
    · have := hb.at_ c (List.mem_of_mem_take hc)
      omega
    · have hne : fs.map cD ≠ [] := by simpa using hf
      simp [e1', hne, hf]
      rw [zrp (by omega)]
      simp [fD]
theorem zjq (n : Nat) (ns : List Int) {at_ most : Int} (h0 : 0 ≤ at_) (hm : 1 ≤ most) (hm2 : most ≤ 24) : ∃ f, OkF f ∧ (f.length : Int) ≤ most ∧ za1 U zat (n + 2) 15 [sD ns, .int at_, .int most] = some (.val (fD f)) := by
  obtain ⟨f, h1, h2, _, h3⟩ := zhU n ns h0 hm hm2
  exact ⟨f, h1, h2, h3⟩
end LK
namespace LK
open L2.LW
noncomputable def zf0 : List zah := [(1, 2), (0, 1), (1, 1), (1, 2), (0, 2), (1, 3), (2, 3), (0, 1), (1, 2), (2, 2), (0, 3), (1, 4), (2, 4), (3, 3), (3, 4), (0, 4), (4, 4), (1, 2), (1, 1)]
theorem zmF : ∀ l ∈ zf0, OkL l := by
  intro l hl
  simp only [zf0, List.mem_cons, List.not_mem_nil, or_false] at hl
  rcases hl with rfl | rfl | rfl | rfl | rfl | rfl | rfl | rfl | rfl | rfl | rfl | rfl | rfl | rfl | rfl | rfl | rfl | rfl | rfl <;> exact ⟨by decide, by decide, by decide, by decide⟩
theorem zkJ (n : Nat) (x : Int) : ∃ l, OkL l ∧ za1 U zat (n + 1) 16 [.int x] = some (.val (cD l)) := by
  rw [zaw U16 rfl]
  have h19 : (0 : Int) < 19 := by decide
  have hl := zbg
  obtain ⟨k, hk⟩ := Int.eq_ofNat_of_zero_le (Int.emod_nonneg x (by decide : (19 : Int) ≠ 0))
  have hk2 : k < 19 := by have := Int.emod_lt_of_pos x h19; omega
  have hlen : zf0.length = 19 := rfl
  refine ⟨zf0[k]'(by omega), zmF _ (List.getElem_mem _), ?_⟩
  simp only [zu9]
  simp [zhT h19, hk]
  rw [zrk (by simp; omega)]
  simp
  rw [show ([D.tup [.int 1, .int 2], .tup [.int 0, .int 1], .tup [.int 1, .int 1], .tup [.int 1, .int 2], .tup [.int 0, .int 2], .tup [.int 1, .int 3], .tup [.int 2, .int 3], .tup [.int 0, .int 1], .tup [.int 1, .int 2], .tup [.int 2, .int 2], .tup [.int 0, .int 3], .tup [.int 1, .int 4], .tup [.int 2, .int 4],
    .tup [.int 3, .int 3], .tup [.int 3, .int 4], .tup [.int 0, .int 4], .tup [.int 4, .int 4], .tup [.int 1, .int 2], .tup [.int 1, .int 1]] : List D) = zf0.map cD from rfl]
  rw [zoy, atI_nat (by simp; omega)]
  simp
theorem zzE {f : List zah} (h : f ≠ []) (x : Int) : ∃ k, ∃ hk : k < f.length, x % (f.length : Int) = (k : Int) := by
  have hp : 0 < (f.length : Int) := by cases f <;> simp_all
  obtain ⟨k, hk⟩ := Int.eq_ofNat_of_zero_le (Int.emod_nonneg x (by omega : (f.length : Int) ≠ 0))
  have := Int.emod_lt_of_pos x hp
  exact ⟨k, by omega, hk⟩
noncomputable def depth : Nat := 40
end LK
namespace LK
open L2.LW
noncomputable abbrev Ms := List (zah × zah)
noncomputable def dD (ms : Ms) : D := .dct true (ms.map fun p => cD p.1) (ms.map fun p => cD p.2)
noncomputable def get (ms : Ms) (c : zah) : Option zah := (ms.find? fun p => decide (p.1 = c)).map (·.2)
noncomputable def put (ms : Ms) (c v : zah) : Ms := if (get ms c).isSome then ms.map (fun p => if p.1 = c then (p.1, v) else p) else ms ++ [(c, v)]
@[simp] theorem ze7 {c : zah} : zbS true (cD c) = true := by simp [cD, zbS, ints?]
theorem zjr (c : zah) : ∀ l : List zah, kix (l.map cD) (cD c) = l.findIdx? fun x => decide (x = c)
  | [] => rfl
  | x :: r => by
    have ih := zjr c r
    unfold kix at ih ⊢
    rw [List.map_cons, List.findIdx?_cons, List.findIdx?_cons, zji, ih]
theorem zcp (c : zah) : ∀ l : List zah, (kix (l.map cD) (cD c)).isSome = decide (c ∈ l) := fun l => by
  rw [zjr]
  cases e : l.findIdx? fun x => decide (x = c) with
  | none =>
    rw [List.findIdx?_eq_none_iff] at e
    have : c ∉ l := fun h => by have := e c h; simp at this
    simp [this]
  | some i =>
    obtain ⟨h1, h2, _⟩ := List.findIdx?_eq_some_iff_getElem.mp e
    have : c ∈ l := by
      have h2 : l[i] = c := by simpa using h2
      rw [← h2]; exact List.getElem_mem h1
    simp [this]
theorem zoF (c : zah) : get [] c = none := rfl
theorem zcU (p : zah × zah) (r : Ms) (c : zah) : get (p :: r) c = if p.1 = c then some p.2 else get r c := by
  unfold get
  rw [List.find?_cons]
  by_cases h : p.1 = c <;> simp [h]
theorem zcd (c : zah) : ∀ ms : Ms, (get ms c).isSome = decide (c ∈ ms.map (·.1))
  | [] => rfl
  | p :: r => by
    rw [zcU, List.map_cons]
    by_cases h : p.1 = c
    · simp [h]
    · rw [if_neg h, zcd c r]
      have : ¬ c = p.1 := fun z => h z.symm
      simp [this]
theorem zoG (c : zah) : ∀ ms : Ms, zr1 (ms.map fun p => cD p.1) (ms.map fun p => cD p.2) (cD c) = (get ms c).map cD
  | [] => rfl
  | p :: r => by
    have ih := zoG c r
    unfold zr1 kix at ih ⊢
    rw [List.map_cons, List.map_cons, List.findIdx?_cons, zji, zcU]
    by_cases h : p.1 = c
    · simp [h]
    · rw [if_neg h, ← ih]
      simp only [h, decide_false, Bool.false_eq_true, if_false]
      cases (List.findIdx? (fun x => eqD x (cD c)) (r.map fun p => cD p.1)) <;> simp
theorem zhV (ms : Ms) : (ms.map fun p => cD p.1) = (ms.map (·.1)).map cD := by rw [List.map_map]; rfl
@[simp] theorem zzF {c : zah} {ms : Ms} : zal .inn [cD c, dD ms] = some (.val (.bl (get ms c).isSome)) := by
  simp only [dD, zal, pIn, ze7, if_true, zeX, zhV, zcp, zcd]
@[simp] theorem zvr {c : zah} {ms : Ms} : zal .nin [cD c, dD ms] = some (.val (.bl (!(get ms c).isSome))) := by
  simp only [dD, zal, zqW, ze7, if_true, zeX, zhV, zcp, zcd]
theorem zjs {c : zah} {ms : Ms} {v : zah} (h : get ms c = some v) : zal .idx [dD ms, cD c] = some (.val (cD v)) := by
  simp only [dD, zal, zwj, ze7, if_true, zoG, h, Option.map_some]
theorem zsK (ms : Ms) (c v : zah) : zhx true (ms.map fun p => cD p.1) (ms.map fun p => cD p.2) (cD c) (cD v) = dD (put ms c v) := by
  unfold zhx put
  rw [zhV, zcp, ← zcd, ← zhV]
  split
  · have : ∀ ms : Ms, List.zipWith (fun k' v' => if eqD k' (cD c) = true then cD v else v') (ms.map fun p => cD p.1) (ms.map fun p => cD p.2) = ms.map fun p => cD (if p.1 = c then (p.1, v) else p).2 := by
      intro ms
      induction ms with
      | nil => rfl
      | cons p r ih =>
        rw [List.map_cons, List.map_cons, List.zipWith_cons_cons, ih, List.map_cons, zji]
        by_cases h : p.1 = c <;> simp [h]
    rw [this]
    unfold dD
    rw [List.map_map, List.map_map]
    congr 1
    · apply List.map_congr_left
      intro p _
      show cD p.1 = cD (if p.1 = c then (p.1, v) else p).1
      split <;> rfl
  · simp [dD]
@[simp] theorem zvs {ms : Ms} : zbA (ms.map fun p => cD p.2) = true := by
  have : (ms.map fun p => cD p.2) = (ms.map (·.2)).map cD := by rw [List.map_map]; rfl
  rw [this]; exact ze4
@[simp] theorem zw3 {ms : Ms} : zgE (dD ms) = true := by simp [dD]
@[simp] theorem zvt {ms : Ms} : zc3 (dD ms) = true := by simp [dD]
theorem zeR (ms : Ms) (c v x : zah) : get (put ms c v) x = if x = c then some v else get ms x := by
  unfold put
  split
  · rename_i h
    have key : ∀ ms : Ms, get (ms.map fun p => if p.1 = c then (p.1, v) else p) x = if x = c then (get ms x).map (fun _ => v) else get ms x := by
      intro ms
      induction ms with
      | nil => simp [zoF]
      | cons p r ih =>
        rw [List.map_cons, zcU, zcU, ih]
        by_cases h1 : p.1 = c
        · subst h1
          by_cases h2 : p.1 = x
          · subst h2; simp
          · have h3 : ¬ x = p.1 := fun z => h2 z.symm
            simp [h2, h3]
        · by_cases h2 : p.1 = x
          · subst h2; simp [h1]
          · simp [h1, h2]
    rw [key]
    by_cases hx : x = c
    · subst hx
      obtain ⟨y, hy⟩ := Option.isSome_iff_exists.mp h
      simp [hy]
    · simp [hx]
  · rename_i h
    have key : ∀ ms : Ms, get (ms ++ [(c, v)]) x = match get ms x with
        | some y => some y
        | none => if x = c then some v else none := by
      intro ms
      induction ms with
      | nil =>
        show get ((c, v) :: []) x = _
        rw [zcU, zoF]
        by_cases h : c = x
        · subst h; simp
        · have : ¬ x = c := fun z => h z.symm
          simp [h, this]
      | cons p r ih =>
        rw [List.cons_append, zcU, zcU, ih]
        by_cases h : p.1 = x <;> simp [h]
    rw [key]
    by_cases hx : x = c
    · subst hx
      have : get ms x = none := by simpa using h
      simp [this]
    · cases get ms x <;> simp [hx]
theorem zoH (ms : Ms) (c v : zah) : (put ms c v).length ≤ ms.length + 1 := by
  unfold put; split <;> simp
noncomputable def zjt (ms : Ms) : Prop := (ms.map (·.1)).Nodup
theorem zqi (ms : Ms) (c v : zah) : (put ms c v).map (·.1) = if c ∈ ms.map (·.1) then ms.map (·.1) else ms.map (·.1) ++ [c] := by
  unfold put
  rw [zcd]
  by_cases h : c ∈ ms.map (·.1)
  · simp only [h, decide_true, if_true]
    rw [List.map_map]
    apply List.map_congr_left
    intro p _
    show (if p.1 = c then (p.1, v) else p).1 = p.1
    split <;> rfl
  · simp [h]
theorem zju {ms : Ms} {c v : zah} (h : zjt ms) : zjt (put ms c v) := by
  unfold zjt at *
  rw [zqi]
  split
  · exact h
  · rename_i hc
    rw [List.nodup_append]
    refine ⟨h, by simp, fun a ha b hb e => ?_⟩
    simp at hb; subst hb; subst e; exact hc ha
theorem zbE {α : Type} [DecidableEq α] : ∀ {l m : List α}, l.Nodup → (∀ x ∈ l, x ∈ m) → l.length ≤ m.length
  | [], _, _, _ => Nat.zero_le _
  | x :: r, m, hn, hs => by
    rw [List.nodup_cons] at hn
    have hx := hs x List.mem_cons_self
    have ih := zbE (l := r) (m := m.erase x) hn.2 fun y hy => by
      rw [List.mem_erase_of_ne (fun e => hn.1 (by rw [← e]; exact hy))]
      exact hs y (List.mem_cons_of_mem _ hy)
    rw [List.length_erase_of_mem hx] at ih
    have : 0 < m.length := List.length_pos_of_mem hx
    simp; omega
noncomputable def zw4 (l : zah) : List Int := ((List.range l.2.toNat).map fun (k : Nat) => (1 + (k : Int))).filter fun d => decide (l.1 % d = 0) && decide (l.2 % d = 0)
noncomputable def zcy (l : zah) : Int := match zw4 l with
  | [] => 1
  | n :: r => r.foldl max n
theorem zoI {l : zah} (h : OkL l) : l ∈ [((0 : Int), (1 : Int)), (1, 1), (0, 2), (1, 2), (2, 2), (0, 3), (1, 3), (2, 3), (3, 3), (0, 4), (1, 4), (2, 4), (3, 4), (4, 4)] := by
  obtain ⟨h1, h2, h3, h4⟩ := h
  have all : ∀ i j : Fin 5, i.1 ≤ j.1 → 1 ≤ j.1 → (((i.1 : Nat) : Int), ((j.1 : Nat) : Int)) ∈ [((0 : Int), (1 : Int)), (1, 1), (0, 2), (1, 2), (2, 2), (0, 3), (1, 3), (2, 3), (3, 3), (0, 4), (1, 4), (2, 4), (3, 4), (4, 4)] := by decide +kernel
  have := all ⟨l.1.toNat, by omega⟩ ⟨l.2.toNat, by omega⟩ (by simp only; omega) (by simp only; omega)
  simp only at this
  rw [Int.toNat_of_nonneg h1, Int.toNat_of_nonneg (by omega)] at this
  exact this
theorem OkL.cases {P : zah → Prop} {l : zah} (h : OkL l) (p : ∀ x ∈ [((0 : Int), (1 : Int)), (1, 1), (0, 2), (1, 2), (2, 2), (0, 3), (1, 3), (2, 3), (3, 3), (0, 4), (1, 4), (2, 4), (3, 4), (4, 4)], P x) : P l := p l (zoI h)
theorem zhW {l : zah} (h : OkL l) : zw4 l ≠ [] ∧ 1 ≤ zcy l ∧ zcy l ≤ 4 := by
  revert l
  intro l h
  have := zoI h
  simp only [List.mem_cons, List.not_mem_nil, or_false] at this
  rcases this with rfl | rfl | rfl | rfl | rfl | rfl | rfl | rfl | rfl | rfl | rfl | rfl | rfl | rfl <;> decide +kernel
theorem zci (n : Nat) {l : zah} (h : OkL l) : za1 U zat (n + 1) 21 [cD l] = some (.val (.int (zcy l))) := by
  rw [zaw U21 rfl]
  have hl' := zbg
  have h3 := h.c
  have h4 := h.d
  have e3 : (l.2 + 1 - 1).toNat = l.2.toNat := by omega
  simp only [zvb]
  simp
  rw [zb1 (rs := [.val (.int 1), .val (.int (l.2 + 1))]) (xs := (List.range l.2.toNat).map fun (k : Nat) => (1 + (k : Int))) (f := D.int) (fun d => decide (l.1 % d = 0) && decide (l.2 % d = 0)) D.int]
  · obtain ⟨hne, _⟩ := zhW h
    show zou ((((zal .maxL [.lst ((zw4 l).map D.int)])).bind _).bind _) = _
    unfold zcy
    cases e : zw4 l with
    | nil => exact absurd e hne
    | cons n r =>
      rw [zro]
      simp
  · simp
  · rw [zhd ⟨zcE (by omega) (by omega), zcE (by omega) (by omega)⟩, e3, List.map_map]
    rfl
  · simp; omega
  · intro d hd
    rw [List.mem_map] at hd
    obtain ⟨k, hk, rfl⟩ := hd
    have hp : 0 < 1 + (k : Int) := by omega
    simp [zhT hp]
    by_cases h0 : l.1 % (1 + (k : Int)) = 0
    · simp [h0]; rw [Bool.eq_iff_iff]; simp
    · simp [h0]
  · intro d hd _
    simp
noncomputable def zoJ (l : zah) : Bool := decide ((l.1 / zcy l + l.2 / zcy l) % 2 = 1)
noncomputable def hue (l c : zah) : Int := if zoJ l then (c.1 / zcy l + c.2 / zcy l) % 2 else c.1 / zcy l % 2
theorem zgI (n : Nat) {l : zah} (h : OkL l) : za1 U zat (n + 2) 22 [cD l] = some (.val (.bl (zoJ l))) := by
  rw [zaw U22 rfl]
  obtain ⟨_, g1, g2⟩ := zhW h
  have hg : 0 < zcy l ∧ zcy l < 1073741824 := by omega
  have h2 : (0 : Int) < 2 := by decide
  simp [zvc, zci n h, zrl hg, zhT h2]
  unfold zoJ
  rw [Bool.eq_iff_iff]; simp
theorem zf1 (n : Nat) {l : zah} (h : OkL l) (c : zah) : za1 U zat (n + 3) 23 [cD l, cD c] = some (.val (.int (hue l c))) := by
  rw [zaw U23 rfl]
  obtain ⟨_, g1, g2⟩ := zhW h
  have hg : 0 < zcy l ∧ zcy l < 1073741824 := by omega
  have h2 : (0 : Int) < 2 := by decide
  simp [zvd, zci (n + 1) h, zgI n h, zrl hg, zhT h2]
  unfold hue
  by_cases ho : zoJ l = true <;> simp [ho, zhT h2]
theorem zbF (n : Nat) {l : zah} (h : OkL l) {f : List zah} (hf : f.length ≤ 1000) (k : Int) : za1 U zat (n + 4) 24 [fD f, cD l, .int k] = some (.obj true (.lst ((f.filter fun c => decide (hue l c = k)).map cD))) := by
  rw [zaw U24 rfl]
  have hl' := zbg
  simp only [zve]
  simp
  rw [zb1 (rs := [.val (fD f)]) (xs := f) (f := cD) (fun c => decide (hue l c = k)) cD]
  · simp
  · simp
  · rfl
  · omega
  · intro x _
    simp [zf1 n h]
    rw [Bool.eq_iff_iff]; simp
  · intro x _ _; simp
theorem zoK (i : Int) : (ziE i = i ∧ 0 ≤ i) ∨ (ziE i = -i ∧ i < 0) := by
  unfold ziE; split <;> omega
theorem zlN {l a b : zah} : zeQ l a b = true ↔ (ziE (a.1 - b.1) = l.1 ∧ ziE (a.2 - b.2) = l.2 ∧ l.1 ≤ l.2) ∨ (ziE (a.1 - b.1) = l.2 ∧ ziE (a.2 - b.2) = l.1 ∧ l.1 ≤ l.2) := by
  unfold zeQ
  rw [decide_eq_true_iff]
  obtain ⟨l1, l2⟩ := l
  simp only [Prod.mk.injEq]
  omega
theorem zqj {l : zah} (h : OkL l) : 1 ≤ zcy l ∧ l.1 = zcy l * (l.1 / zcy l) ∧ l.2 = zcy l * (l.2 / zcy l) ∧ (zoJ l = false → l.1 / zcy l % 2 = 1 ∧ l.2 / zcy l % 2 = 1) :=
  OkL.cases (P := fun l => 1 ≤ zcy l ∧ l.1 = zcy l * (l.1 / zcy l) ∧ l.2 = zcy l * (l.2 / zcy l) ∧ (zoJ l = false → l.1 / zcy l % 2 = 1 ∧ l.2 / zcy l % 2 = 1)) h (by decide +kernel)
theorem zqk {g m x y : Int} (hg : 1 ≤ g) (h : x - y = g * m ∨ x - y = -(g * m)) : (x / g = y / g + m ∨ x / g = y / g - m) ∧ x % g = y % g := by
  rcases h with h | h
  · rw [show x = y + g * m by omega, Int.add_mul_ediv_left _ _ (by omega), Int.add_mul_emod_self_left]
    exact ⟨.inl rfl, rfl⟩
  · rw [show x = y + g * (-m) by rw [Int.mul_neg]; omega, Int.add_mul_ediv_left _ _ (by omega), Int.add_mul_emod_self_left]
    exact ⟨.inr (by omega), rfl⟩
theorem zmG {l a b : zah} (h : OkL l) (hn : zeQ l a b = true) : ∃ m n : Int, (a.1 / zcy l = b.1 / zcy l + m ∨ a.1 / zcy l = b.1 / zcy l - m) ∧ (a.2 / zcy l = b.2 / zcy l + n ∨ a.2 / zcy l = b.2 / zcy l - n) ∧
    a.1 % zcy l = b.1 % zcy l ∧ a.2 % zcy l = b.2 % zcy l ∧ (zoJ l = true → (m + n) % 2 = 1) ∧ (zoJ l = false → m % 2 = 1 ∧ n % 2 = 1) := by
  obtain ⟨g1, e1, e2, ev⟩ := zqj h
  have od : zoJ l = true → (l.1 / zcy l + l.2 / zcy l) % 2 = 1 := fun z => by unfold zoJ at z; exact of_decide_eq_true z
  have ha := zoK (a.1 - b.1)
  have hb := zoK (a.2 - b.2)
  rw [zlN] at hn
  generalize zcy l = g at *
  generalize l.1 / g = m at *
  generalize l.2 / g = n at *
  rw [e1, e2] at hn
  rcases hn with ⟨p, q, _⟩ | ⟨p, q, _⟩
  · obtain ⟨s1, s2⟩ := zqk (x := a.1) (y := b.1) g1 (m := m) (by omega)
    obtain ⟨t1, t2⟩ := zqk (x := a.2) (y := b.2) g1 (m := n) (by omega)
    exact ⟨m, n, s1, t1, s2, t2, od, ev⟩
  · obtain ⟨s1, s2⟩ := zqk (x := a.1) (y := b.1) g1 (m := n) (by omega)
    obtain ⟨t1, t2⟩ := zqk (x := a.2) (y := b.2) g1 (m := m) (by omega)
    exact ⟨n, m, s1, t1, s2, t2, fun z => by have := od z; omega, fun z => ⟨(ev z).2, (ev z).1⟩⟩
theorem zb9 {l a b : zah} (h : OkL l) (hn : zeQ l a b = true) : hue l a ≠ hue l b := by
  obtain ⟨m, n, s, t, _, _, od, ev⟩ := zmG h hn
  unfold hue
  by_cases z : zoJ l = true
  · have := od z
    rw [if_pos z, if_pos z]; omega
  · have := (ev (by simpa using z)).1
    rw [if_neg z, if_neg z]; omega
theorem zcq {l : zah} (c : zah) : hue l c = 0 ∨ hue l c = 1 := by
  unfold hue; split <;> omega
end LK
namespace LK
open L2.LW
theorem zhf {i : Nat} {body : Env → Option (Fl × Env)} (I : List zah → Env → Prop) (Q : SV → Env → Prop) {xs : List zah} {ρ : Env} (h0 : I [] ρ)
    (st : ∀ pre x post ρ, xs = pre ++ x :: post → I pre ρ → ∃ fl ρ', body (ρ.set i (some (.val (cD x)))) = some (fl, ρ') ∧ (((fl = .nx ∨ fl = .ct) ∧ I (pre ++ [x]) ρ') ∨ ∃ r, fl = .rt r ∧ Q r ρ')) :
    ∃ fl ρ', zgy i body (xs.map cD) ρ = some (fl, ρ') ∧ ((fl = .nx ∧ I xs ρ') ∨ ∃ r, fl = .rt r ∧ Q r ρ') := by
  have key : ∀ (post pre : List zah) (ρ : Env), xs = pre ++ post → I pre ρ → ∃ fl ρ', zgy i body (post.map cD) ρ = some (fl, ρ') ∧ ((fl = .nx ∧ I xs ρ') ∨ ∃ r, fl = .rt r ∧ Q r ρ') := by
    intro post
    induction post with
    | nil => intro pre ρ e h; exact ⟨_, ρ, rfl, .inl ⟨rfl, by rw [e]; simpa using h⟩⟩
    | cons x post ih =>
      intro pre ρ e h
      obtain ⟨fl, ρ1, e1, e2⟩ := st pre x post ρ e h
      rw [List.map_cons, zgy, e1]
      simp only [Option.bind_some]
      rcases e2 with ⟨e2, h1⟩ | ⟨r, rfl, q⟩
      · obtain ⟨fl', ρ', e3, h3⟩ := ih (pre ++ [x]) ρ1 (by simp [e]) h1
        rcases e2 with rfl | rfl <;> exact ⟨fl', ρ', e3, h3⟩
      · exact ⟨_, ρ1, rfl, .inr ⟨r, rfl, q⟩⟩
  exact key xs [] ρ rfl h0
theorem zbW {i : Nat} {body : Env → Option (Fl × Env)} (I : List zah → Env → Prop) {xs : List zah} {ρ : Env} (h0 : I [] ρ)
    (st : ∀ pre x post ρ, xs = pre ++ x :: post → I pre ρ → ∃ fl ρ', body (ρ.set i (some (.val (cD x)))) = some (fl, ρ') ∧ (fl = .nx ∨ fl = .ct) ∧ I (pre ++ [x]) ρ') :
    ∃ ρ', zgy i body (xs.map cD) ρ = some (.nx, ρ') ∧ I xs ρ' := by
  obtain ⟨fl, ρ', e, h⟩ := zhf (i := i) (body := body) I (fun _ _ => False) (xs := xs) (ρ := ρ) h0 fun pre x post ρ e h => by
    obtain ⟨fl, ρ', h1, h2, h3⟩ := st pre x post ρ e h
    exact ⟨fl, ρ', h1, .inl ⟨h2, h3⟩⟩
  rcases h with ⟨rfl, h⟩ | ⟨_, _, z⟩
  · exact ⟨ρ', e, h⟩
  · exact z.elim
noncomputable def zyW (k : Option (List D)) : Option (Option SV) → Option (List D)
  | some (some (.io d)) => k.map (d :: ·)
  | _ => none
@[simp] theorem zyi {k : Option (List D)} {d : D} : zyW k (some (some (.io d))) = k.map (d :: ·) := id rfl
@[simp] theorem ztv {ρ : Env} : zc5 ρ [] = some [] := by rw [zc5]
@[simp] theorem zsL {ρ : Env} {i : Nat} {r : List Nat} : zc5 ρ (i :: r) = zyW (zc5 ρ r) ρ[i]? := by
  rw [zc5]
  rcases ρ[i]? with _ | _ | (_ | _ | _) <;> rfl
@[simp] theorem zyj {io : List Nat} {r : SV} {ρ : Env} : zpQ io (some (.rt r, ρ)) = (zc5 ρ io).map (Ans.ok r) := id rfl
noncomputable def tD (tr : List zah) : D := .dct true (tr.map cD) (tr.map fun _ => .bl true)
@[simp] theorem zvu {tr : List zah} : zbA (tr.map fun _ => (.bl true : D)) = true := by
  induction tr with
  | nil => simp
  | cons x r ih => simpa using ih
@[simp] theorem zw5 {tr : List zah} : zgE (tD tr) = true := by simp [tD]
@[simp] theorem zvv {tr : List zah} : zc3 (tD tr) = true := by simp [tD]
@[simp] theorem zyX {c : zah} {tr : List zah} : zal .nin [cD c, tD tr] = some (.val (.bl (!decide (c ∈ tr)))) := by
  simp only [tD, zal, zqW, ze7, if_true, zeX, zcp]
theorem zsM {tr : List zah} {c : zah} (h : c ∉ tr) : zhx true (tr.map cD) (tr.map fun _ => .bl true) (cD c) (.bl true) = tD (tr ++ [c]) := by
  unfold zhx
  rw [zcp]
  simp [h, tD]
section
variable (f : List zah) (l : zah)
noncomputable def nb (c : zah) : List zah := f.filter (zeQ l c)
structure Half (ms : Ms) : Prop where
  nd : zjt ms
  inF : ∀ x y, get ms x = some y → x ∈ f ∧ y ∈ f ∧ zeQ l x y = true
structure Match (ms : Ms) : Prop extends Half f l ms where
  sym : ∀ x y, get ms x = some y → get ms y = some x
noncomputable def zc7 (ms : Ms) (T : zah → Prop) : Prop := ∀ y, T y → ∃ x, get ms y = some x ∧ ∀ o ∈ nb f l x, T o
structure Fail (ms : Ms) (c : zah) (tr tr' : List zah) : Prop where
  all : ∀ o ∈ nb f l c, o ∈ tr'
  cl : ∀ y ∈ tr', y ∉ tr → ∃ x, get ms y = some x ∧ ∀ o ∈ nb f l x, o ∈ tr'
structure Succ (ms ms' : Ms) (c : zah) (tr : List zah) : Prop where
  half : Half f l ms'
  left : ∀ x y, hue l x = 0 → get ms' x = some y → get ms' y = some x
  right : ∀ x y, hue l y = 1 → get ms c ≠ some y → get ms' y = some x → get ms' x = some y
  old : ∀ y ∈ tr, hue l y = 1 → get ms' y = get ms y
  own : ∃ y, get ms' c = some y ∧ y ∉ tr
  keep : ∀ x, hue l x = 0 → x ≠ c → (get ms x = none ∨ ∃ y ∈ tr, get ms x = some y) → get ms' x = get ms x
  dom : ∀ x, (get ms x).isSome = true → (get ms' x).isSome = true
  closed : ∀ T, zc7 f l ms T → ∀ y, hue l y = 1 → T y → get ms' y = get ms y
  dead : ∀ T, zc7 f l ms T → ¬ ∀ o ∈ nb f l c, T o
end
section
variable {f : List zah} {l : zah}
theorem zbO {c o : zah} : o ∈ nb f l c ↔ o ∈ f ∧ zeQ l c o = true := by unfold nb; exact List.mem_filter
theorem Half.len {ms : Ms} (h : Half f l ms) : ms.length ≤ f.length := by
  have := zbE (l := ms.map fun (p : zah × zah) => p.1) (m := f) h.nd fun x hx => by
    have : (get ms x).isSome = true := by rw [zcd]; simpa using hx
    obtain ⟨y, hy⟩ := Option.isSome_iff_exists.mp this
    exact (h.inF x y hy).1
  simpa using this
theorem Half.put2 {ms : Ms} (h : Half f l ms) {c o : zah} (hc : c ∈ f) (ho : o ∈ f) (hn : zeQ l c o = true) : Half f l (put (put ms c o) o c) := by
  refine ⟨zju (zju h.nd), fun x y e => ?_⟩
  rw [zeR, zeR] at e
  split at e
  · cases e; rename_i z; subst z; exact ⟨ho, hc, by rw [zbt]; exact hn⟩
  · split at e
    · cases e; rename_i z; subst z; exact ⟨hc, ho, hn⟩
    · exact h.inF x y e
theorem zoL (hl : OkL l) {ms : Ms} (hm : Match f l ms) {c o : zah} {tr : List zah} (hc : c ∈ f) (h0 : hue l c = 0) (ho : o ∈ nb f l c) (hfree : get ms o = none) (hot : o ∉ tr) :
    Succ f l ms (put (put ms c o) o c) c tr := by
  rw [zbO] at ho
  have h1 : hue l o = 1 := by
    have := zb9 hl ho.2
    rcases zcq (l := l) o with z | z
    · rw [z] at this; exact absurd h0 this
    · exact z
  have hne : c ≠ o := fun e => by rw [e] at h0; omega
  have g : ∀ x, get (put (put ms c o) o c) x = if x = o then some c else if x = c then some o else get ms x := fun x => by rw [zeR, zeR]
  refine ⟨hm.put2 hc ho.1 ho.2, fun x y hx e => ?_, fun x y hy hcy e => ?_, fun y hy hh => ?_, ⟨o, by rw [g, if_neg hne, if_pos rfl], hot⟩, fun x hx hxc _ => ?_, fun x hx => ?_, fun T hT y hy hTy => ?_, fun T hT hall => ?_⟩
  · rw [g] at e ⊢
    split at e
    · rename_i z; subst z; omega
    · split at e
      · rename_i z; cases e; rw [if_pos rfl, z]
      · have := hm.sym x y e
        rw [if_neg, if_neg, this]
        · intro z; subst z; rw [hm.sym _ _ this] at e; rename_i q _ ; exact (by
            have e2 := (hm.inF _ _ this).2.2
            have := zb9 hl e2
            omega)
        · intro z; subst z; rw [hfree] at this; cases this
  · rw [g] at e ⊢
    split at e
    · rename_i z; cases e; subst z; rw [if_neg hne, if_pos rfl]
    · split at e
      · rename_i z; subst z; omega
      · have := hm.sym y x e
        rw [if_neg, if_neg, this]
        · intro z; subst z; rename_i q1 q2; exact hcy this
        · intro z; subst z; rw [hfree] at this; cases this
  · rw [g, if_neg (fun z => by subst z; exact hot hy), if_neg (fun z => by subst z; omega)]
  · rw [g, if_neg (fun z => by subst z; omega), if_neg hxc]
  · rw [g]; split
    · rfl
    · split
      · rfl
      · exact hx
  · rw [g, if_neg, if_neg]
    · intro z; subst z; omega
    · intro z; subst z
      obtain ⟨x, e, _⟩ := hT _ hTy
      rw [hfree] at e; cases e
  · obtain ⟨x, e, _⟩ := hT _ (hall o (zbO.mpr ho))
    rw [hfree] at e; cases e
theorem zql (hl : OkL l) {ms ms' : Ms} (hm : Match f l ms) {c o c' : zah} {tr tr1 : List zah} (hc : c ∈ f) (h0 : hue l c = 0) (hcm : get ms c = none ∨ ∃ y ∈ tr, get ms c = some y) (ho : o ∈ nb f l c) (hoc : get ms o = some c') (hot : o ∉ tr) (ht : ∀ y ∈ tr, y ∈ tr1) (hot1 : o ∈ tr1) (hS : Succ f l ms ms' c' tr1) :
    Succ f l ms (put (put ms' c o) o c) c tr := by
  rw [zbO] at ho
  have h1 : hue l o = 1 := by
    have := zb9 hl ho.2
    rcases zcq (l := l) o with z | z
    · rw [z] at this; exact absurd h0 this
    · exact z
  have hc'o := hm.sym o c' hoc
  have h0' : hue l c' = 0 := by
    have := zb9 hl (hm.inF _ _ hoc).2.2
    rcases zcq (l := l) c' with z | z
    · exact z
    · rw [h1, z] at this; exact absurd rfl this
  have hne : c ≠ o := fun e => by rw [e] at h0; omega
  have hcc' : c ≠ c' := fun e => by
    subst e
    rcases hcm with z | ⟨y, hy, z⟩
    · rw [hc'o] at z; cases z
    · rw [hc'o] at z; cases z; exact hot hy
  have hmo : get ms' o = some c' := by rw [hS.old o hot1 h1]; exact hoc
  have hmc : get ms' c = get ms c := hS.keep c h0 hcc' (hcm.imp id fun ⟨y, hy, z⟩ => ⟨y, ht y hy, z⟩)
  obtain ⟨y1, hy1, hy1t⟩ := hS.own
  have hy1o : y1 ≠ o := fun e => hy1t (by rw [e]; exact hot1)
  have g : ∀ x, get (put (put ms' c o) o c) x = if x = o then some c else if x = c then some o else get ms' x := fun x => by rw [zeR, zeR]
  refine ⟨hS.half.put2 hc ho.1 ho.2, fun x y hx e => ?_, fun x y hy hcy e => ?_, fun y hy hh => ?_, ⟨o, by rw [g, if_neg hne, if_pos rfl], hot⟩, fun x hx hxc hxm => ?_, fun x hx => ?_, fun T hT y hy hTy => ?_, fun T hT hall => ?_⟩
  · rw [g] at e ⊢
    split at e
    · rename_i z; subst z; omega
    · split at e
      · rename_i z; cases e; rw [if_pos rfl, z]
      · rename_i z1 z2
        have e2 := hS.left x y hx e
        have hyh : hue l y = 1 := by
          have := zb9 hl (hS.half.inF _ _ e).2.2
          rcases zcq (l := l) y with z | z
          · rw [hx, z] at this; exact absurd rfl this
          · exact z
        rw [if_neg, if_neg, e2]
        · intro z; subst z; omega
        · intro z; subst z
          rw [hmo] at e2
          cases e2
          rw [hy1] at e; cases e
          exact hy1o rfl
  · rw [g] at e ⊢
    split at e
    · rename_i z; cases e; subst z; rw [if_neg hne, if_pos rfl]
    · split at e
      · rename_i z; subst z; omega
      · rename_i z1 z2
        have e2 := hS.right x y hy (fun z => by rw [hc'o] at z; cases z; exact z1 rfl) e
        rw [if_neg, if_neg, e2]
        · intro z; subst z
          rw [hmc] at e2
          exact hcy e2
        · intro z; subst z
          have := zb9 hl (hS.half.inF _ _ e).2.2
          omega
  · rw [g, if_neg (fun z => by subst z; exact hot hy), if_neg (fun z => by subst z; omega)]
    exact hS.old y (ht y hy) hh
  · rw [g, if_neg (fun z => by subst z; omega), if_neg hxc]
    refine hS.keep x hx (fun z => ?_) (hxm.imp id fun ⟨y, hy, z⟩ => ⟨y, ht y hy, z⟩)
    subst z
    rcases hxm with z | ⟨y, hy, z⟩
    · rw [hc'o] at z; cases z
    · rw [hc'o] at z; cases z; exact hot hy
  · rw [g]; split
    · rfl
    · split
      · rfl
      · exact hS.dom x hx
  · rw [g, if_neg, if_neg]
    · exact hS.closed T hT y hy hTy
    · intro z; subst z; omega
    · intro z; subst z
      obtain ⟨x, e, hx⟩ := hT _ hTy
      rw [hoc] at e; cases e
      exact hS.dead T hT hx
  · obtain ⟨x, e, hx⟩ := hT _ (hall o (zbO.mpr ho))
    rw [hoc] at e; cases e
    exact hS.dead T hT hx
@[simp] theorem zyk {c : zah} : zqX (.val (cD c)) = some (.e (cD c)) := by simp [cD]
@[simp] theorem zyl {g : List zah} : zqX (.val (fD g)) = some (.e (fD g)) := by simp [fD]
noncomputable def fmE (f : List zah) (l : zah) (ms : Ms) (c : zah) (tr : List zah) (o : Option SV) : Env := [some (.val (fD f)), some (.val (cD l)), some (.io (dD ms)), some (.val (cD c)), some (.io (tD tr)), o]
noncomputable def unt (f tr : List zah) : Nat := (f.filter fun c => decide (c ∉ tr)).length
theorem zvw {tr : List zah} {o : zah} (ho : o ∈ f) (ht : o ∉ tr) : unt f (tr ++ [o]) < unt f tr := by
  unfold unt
  have key : ∀ g : List zah, (g.filter fun c => decide (c ∉ tr ++ [o])).length ≤ (g.filter fun c => decide (c ∉ tr)).length ∧ (o ∈ g → (g.filter fun c => decide (c ∉ tr ++ [o])).length < (g.filter fun c => decide (c ∉ tr)).length) := by
    intro g
    induction g with
    | nil => exact ⟨Nat.le_refl _, fun h => by cases h⟩
    | cons x r ih =>
      by_cases hx : x = o
      · subst hx
        have a1 : decide (x ∉ tr ++ [x]) = false := by simp
        have a2 : decide (x ∉ tr) = true := by simpa using ht
        rw [List.filter_cons, List.filter_cons, a1, a2]
        simp only [Bool.false_eq_true, if_false, if_true, List.length_cons]
        exact ⟨by omega, fun _ => by omega⟩
      · have a1 : decide (x ∉ tr ++ [o]) = decide (x ∉ tr) := by simp [hx]
        rw [List.filter_cons, List.filter_cons, a1]
        split
        · simp only [List.length_cons]
          refine ⟨by omega, fun h => ?_⟩
          rcases List.mem_cons.mp h with z | z
          · exact absurd z.symm hx
          · have := ih.2 z; omega
        · refine ⟨ih.1, fun h => ?_⟩
          rcases List.mem_cons.mp h with z | z
          · exact absurd z.symm hx
          · exact ih.2 z
  exact (key f).2 ho
theorem zqm {tr tr' : List zah} (h : ∀ y ∈ tr, y ∈ tr') : unt f tr' ≤ unt f tr := by
  unfold unt
  have key : ∀ g : List zah, (g.filter fun c => decide (c ∉ tr')).length ≤ (g.filter fun c => decide (c ∉ tr)).length := by
    intro g
    induction g with
    | nil => exact Nat.le_refl _
    | cons x r ih =>
      rw [List.filter_cons, List.filter_cons]
      by_cases h1 : x ∈ tr
      · have h2 := h x h1
        simp only [h1, h2, not_true, decide_false, Bool.false_eq_true, if_false]; exact ih
      · by_cases h2 : x ∈ tr'
        · simp only [h1, h2, not_true, not_false_iff, decide_false, decide_true, Bool.false_eq_true, if_false, if_true, List.length_cons]; omega
        · simp only [h1, h2, not_false_iff, decide_true, if_true, List.length_cons]; omega
  exact key f
theorem zvx (f tr : List zah) : unt f tr ≤ f.length := List.length_filter_le _ _
structure TrOk (f tr : List zah) : Prop where
  nd : tr.Nodup
  sub : ∀ x ∈ tr, x ∈ f
theorem TrOk.len {tr : List zah} (h : TrOk f tr) : tr.length ≤ f.length := zbE h.nd h.sub
theorem TrOk.snoc {tr : List zah} {o : zah} (h : TrOk f tr) (ho : o ∈ f) (ht : o ∉ tr) : TrOk f (tr ++ [o]) := by
  refine ⟨?_, fun x hx => ?_⟩
  · rw [List.nodup_append]
    refine ⟨h.nd, by simp, fun a ha b hb e => ?_⟩
    simp at hb; subst hb; subst e; exact ht ha
  · rw [List.mem_append, List.mem_singleton] at hx
    rcases hx with z | rfl
    · exact h.sub x z
    · exact ho
structure FM (f : List zah) (l : zah) (n : Nat) (ms : Ms) (c : zah) (tr : List zah) (b : Bool) (ms' : Ms) (tr' : List zah) : Prop where
  eq : zas U zat n 37 [fD f, cD l, dD ms, cD c, tD tr] = some (.ok (.val (.bl b)) [dD ms', tD tr'])
  tr_ : ∀ y ∈ tr, y ∈ tr'
  ok : TrOk f tr'
  no : b = false → ms' = ms ∧ Fail f l ms c tr tr'
  yes : b = true → Succ f l ms ms' c tr
theorem zsN (n : Nat) (hl : OkL l) (hf : f.length ≤ 100) {ms : Ms} (hm : Match f l ms) {c o : zah} {tr : List zah} {o' : Option SV} (ht : TrOk f tr) (hc : c ∈ f) (h0 : hue l c = 0) (ho : o ∈ nb f l c)
    (hrec : ∀ c', get ms o = some c' → o ∉ tr → ∃ b ms' tr', FM f l n ms c' (tr ++ [o]) b ms' tr') :
    (o ∈ tr ∧ zaS (zas U zat n) zat ze3 (fmE f l ms c tr (some (.val (cD o)))) = some (.nx, fmE f l ms c tr (some (.val (cD o))))) ∨
    (o ∉ tr ∧ get ms o = none ∧ zaS (zas U zat n) zat ze3 (fmE f l ms c tr (some (.val (cD o)))) = some (.rt (.val (.bl true)), fmE f l (put (put ms c o) o c) c (tr ++ [o]) (some (.val (cD o))))) ∨
    (o ∉ tr ∧ ∃ c' ms' tr' b, get ms o = some c' ∧ FM f l n ms c' (tr ++ [o]) b ms' tr' ∧ zaS (zas U zat n) zat ze3 (fmE f l ms c tr (some (.val (cD o)))) =
      some (if b then (.rt (.val (.bl true)), fmE f l (put (put ms' c o) o c) c tr' (some (.val (cD o)))) else (.nx, fmE f l ms' c tr' (some (.val (cD o)))))) := by
  have hl' := zbg
  have hml := hm.len
  have htl := ht.len
  by_cases hot : o ∈ tr
  · refine .inl ⟨hot, ?_⟩
    simp [ze3, fmE, hot]
  · have hk1 : decide (tr.length < line) = true := by simp; omega
    have hT : ∀ g : D, tD tr = .dct true (tr.map cD) (tr.map fun _ => .bl true) := fun _ => rfl
    have hD : ∀ ms : Ms, dD ms = .dct true (ms.map fun p => cD p.1) (ms.map fun p => cD p.2) := fun _ => rfl
    have e1 : ∀ ρ : Env, zkD ρ 4 (some (.val (cD o))) (some (.val (.bl true))) (some (some (.io (tD tr)))) = some (.nx, ρ.set 4 (some (.io (tD (tr ++ [o]))))) := fun ρ => by
      rw [tD, zlD]
      simp only [Option.bind_some, zfZ, ze7, List.length_map, hk1, Bool.and_self, if_true, zsM hot]
    have e2 : ∀ (ρ : Env) (i : Nat) (ms : Ms) (a b : zah), ms.length < line → zkD ρ i (some (.val (cD a))) (some (.val (cD b))) (some (some (.io (dD ms)))) = some (.nx, ρ.set i (some (.io (dD (put ms a b))))) := fun ρ i ms a b h => by
      rw [dD, zlD]
      simp only [Option.bind_some, zfZ, ze7, List.length_map, h, decide_true, Bool.and_self, if_true, zsK]
    cases hg : get ms o with
    | none =>
      refine .inr (.inl ⟨hot, rfl, ?_⟩)
      have p1 := zoH ms c o
      simp [ze3, fmE, hot, e1, hg]
      rw [e2 _ 2 ms c o (by omega)]
      simp
      rw [e2 _ 2 (put ms c o) o c (by omega)]
      simp
    | some c' =>
      obtain ⟨b, ms', tr', hr⟩ := hrec c' hg hot
      refine .inr (.inr ⟨hot, c', ms', tr', b, rfl, hr, ?_⟩)
      have heq := hr.eq
      simp [ze3, fmE, hot, e1, hg, zjs hg, heq]
      cases b with
      | true =>
        have p0 := (hr.yes rfl).half.len
        have p1 := zoH ms' c o
        simp
        rw [e2 _ 2 ms' c o (by omega)]
        simp
        rw [e2 _ 2 (put ms' c o) o c (by omega)]
        simp
      | false => simp
theorem zaX (hl : OkL l) {a b : zah} (h : zeQ l a b = true) : (hue l a = 0 → hue l b = 1) ∧ (hue l a = 1 → hue l b = 0) := by
  have := zb9 hl h
  have h1 := zcq (l := l) a
  have h2 := zcq (l := l) b
  omega
theorem zym (hl : OkL l) (hf : OkF f) {ms : Ms} (hm : Match f l ms) : ∀ (u : Nat) (c : zah) (tr : List zah) (n : Nat), unt f tr < u → u + 3 ≤ n → TrOk f tr → c ∈ f → hue l c = 0 → (get ms c = none ∨ ∃ y ∈ tr, get ms c = some y) → ∃ b ms' tr', FM f l n ms c tr b ms' tr' := by
  intro u
  induction u with
  | zero => intro c tr n hu; omega
  | succ u ih =>
    intro c tr n hu hn ht hc h0 hcm
    obtain ⟨m, rfl⟩ : ∃ m, n = m + 4 := ⟨n - 4, by omega⟩
    have hlen := hf.len
    obtain ⟨fl, ρ', hx, hq⟩ := zhf (i := 5) (body := zaS (zas U zat (m + 3)) zat ze3)
      (fun pre ρ => ∃ tr' o', ρ = fmE f l ms c tr' o' ∧ (∀ y ∈ tr, y ∈ tr') ∧ TrOk f tr' ∧ (∀ o ∈ pre, o ∈ tr') ∧ (∀ y ∈ tr', y ∉ tr → ∃ x, get ms y = some x ∧ ∀ o ∈ nb f l x, o ∈ tr'))
      (fun r ρ => ∃ ms' tr' o', r = .val (.bl true) ∧ ρ = fmE f l ms' c tr' o' ∧ (∀ y ∈ tr, y ∈ tr') ∧ TrOk f tr' ∧ Succ f l ms ms' c tr)
      (xs := nb f l c) (ρ := fmE f l ms c tr none) ⟨tr, none, rfl, fun _ h => h, ht, fun _ h => (by cases h), fun y h1 h2 => absurd h1 h2⟩
      fun pre o post ρ e zz5 => by
        obtain ⟨tr', o', eρ, s1, s2, s3, s4⟩ := zz5
        subst eρ
        have ho : o ∈ nb f l c := by rw [e]; simp
        have hof := (zbO.mp ho).1
        have hrec : ∀ c', get ms o = some c' → o ∉ tr' → ∃ b ms' tr'', FM f l (m + 3) ms c' (tr' ++ [o]) b ms' tr'' := fun c' hg hot => by
          have h1 := zvw (tr := tr') hof hot
          have h2 := zqm (f := f) s1
          obtain ⟨g1, g2, g3⟩ := hm.inF o c' hg
          have hh := (zaX hl (zbO.mp ho).2).1 h0
          exact ih c' (tr' ++ [o]) (m + 3) (by omega) (by omega) (s2.snoc hof hot) g2 ((zaX hl g3).2 hh) (.inr ⟨o, by simp, hm.sym _ _ hg⟩)
        rcases zsN (m + 3) hl (by omega) hm (o' := o') s2 hc h0 ho hrec with ⟨hot, ex⟩ | ⟨hot, hg, ex⟩ | ⟨hot, c', ms', tr'', b, hg, hF, ex⟩
        · refine ⟨_, _, ex, .inl ⟨.inl rfl, tr', _, rfl, s1, s2, fun x hx => ?_, s4⟩⟩
          rw [List.mem_append, List.mem_singleton] at hx
          rcases hx with z | rfl
          · exact s3 x z
          · exact hot
        · refine ⟨_, _, ex, .inr ⟨_, rfl, _, _, _, rfl, rfl, fun y hy => List.mem_append_left _ (s1 y hy), s2.snoc hof hot, zoL hl hm hc h0 ho hg fun z => hot (s1 o z)⟩⟩
        · have sub : ∀ y ∈ tr', y ∈ tr'' := fun y hy => hF.tr_ y (List.mem_append_left _ hy)
          have hoT : o ∈ tr'' := hF.tr_ o (by simp)
          cases b with
          | true =>
            refine ⟨_, _, ex, .inr ⟨_, rfl, _, _, _, rfl, rfl, fun y hy => sub y (s1 y hy), hF.ok, ?_⟩⟩
            exact zql hl hm hc h0 hcm ho hg (fun z => hot (s1 o z)) (fun y hy => List.mem_append_left _ (s1 y hy)) (by simp) (hF.yes rfl)
          | false =>
            obtain ⟨rfl, hFl⟩ := hF.no rfl
            refine ⟨_, _, ex, .inl ⟨.inl rfl, tr'', _, rfl, fun y hy => sub y (s1 y hy), hF.ok, fun x hx => ?_, fun y hy hyt => ?_⟩⟩
            · rw [List.mem_append, List.mem_singleton] at hx
              rcases hx with z | rfl
              · exact sub x (s3 x z)
              · exact hoT
            · by_cases h1 : y ∈ tr'
              · obtain ⟨x, e1, e2⟩ := s4 y h1 hyt
                exact ⟨x, e1, fun o ho => sub o (e2 o ho)⟩
              · by_cases h2 : y = o
                · subst h2; exact ⟨c', hg, hFl.all⟩
                · exact hFl.cl y hy fun z => by
                    rw [List.mem_append, List.mem_singleton] at z
                    rcases z with z | z
                    · exact h1 z
                    · exact h2 z
    have cn := zcT m l c (f := f) (by omega : f.length ≤ 1000)
    have run : zas U zat (m + 4) 37 [fD f, cD l, dD ms, cD c, tD tr] = zpQ [2, 4] ((some (fl, ρ')).bind fun x => zhS x (zaS (zas U zat (m + 3)) zat (.cons (.ret (.bl false)) .nil))) := by
      rw [zmC U37 rfl]
      show zpQ [2, 4] (zaS (zas U zat (m + 3)) zat zts (fmE f l ms c tr none)) = _
      simp only [zts, zdj, zeO]
      simp [fmE, cn]
      rw [← fmE, ← nb, hx]
      simp
    rcases hq with ⟨rfl, tr', o', rfl, s1, s2, s3, s4⟩ | ⟨r, rfl, ms', tr', o', rfl, rfl, s1, s2, s3⟩
    · refine ⟨false, ms, tr', ⟨?_, s1, s2, fun _ => ⟨rfl, s3, s4⟩, fun z => (by cases z)⟩⟩
      rw [run]
      simp [fmE]
    · refine ⟨true, ms', tr', ⟨?_, s1, s2, fun z => (by cases z), fun _ => s3⟩⟩
      rw [run]
      simp [fmE]
end
end LK
namespace LK
open L2.LW
section
variable {f : List zah} {l : zah}
theorem zca (hf : OkF f) : f.Nodup := OkF.nodup hf.rise
structure Final (f : List zah) (l : zah) (ms : Ms) (T : zah → Prop) : Prop extends Match f l ms where
  cl : zc7 f l ms T
  free : ∀ x ∈ f, hue l x = 0 → get ms x = none → ∀ o ∈ nb f l x, T o
  side : ∀ y, T y → hue l y = 1
theorem zmH (hl : OkL l) {ms ms' : Ms} {c : zah} (hm : Match f l ms) (hg : get ms c = none) (h : Succ f l ms ms' c []) : Match f l ms' := by
  refine { h.half with sym := fun x y e => ?_ }
  rcases zcq (l := l) x with z | z
  · exact h.left x y z e
  · exact h.right y x z (by rw [hg]; exact fun z => nomatch z) e
noncomputable def amE (f : List zah) (l : zah) (ms : Ms) (o : Option SV) : Env := [some (.val (fD f)), some (.val (cD l)), some (.obj true (dD ms)), o]
theorem zdk (n : Nat) (hl : OkL l) (hf : OkF f) : ∃ ms T, Final f l ms T ∧ za1 U zat (n + 29) 38 [fD f, cD l] = some (.obj true (dD ms)) := by
  have hlen := hf.len
  obtain ⟨ρ', hx, ms, T, o', rfl, hm, hT, hfr, hsd, hin⟩ := zbW (i := 3) (body := zaS (zas U zat (n + 28)) zat zlJ)
    (fun pre ρ => ∃ ms T o', ρ = amE f l ms o' ∧ Match f l ms ∧ zc7 f l ms T ∧ (∀ x ∈ pre, get ms x = none → ∀ o ∈ nb f l x, T o) ∧ (∀ y, T y → hue l y = 1) ∧ ∀ x, hue l x = 0 → (get ms x).isSome = true → x ∈ pre)
    (xs := f.filter fun c => decide (hue l c = 0)) (ρ := amE f l [] none) ⟨[], fun _ => False, none, rfl, ⟨⟨by simp [zjt], fun x y e => by cases e⟩, fun x y e => by cases e⟩, fun y z => z.elim, fun x h => (by cases h), fun y z => z.elim, fun x _ h => (by cases h)⟩
    fun pre c post ρ e zz5 => by
      obtain ⟨ms, T, o', eρ, hm, hT, hfr, hsd, hin⟩ := zz5
      subst eρ
      have hc : c ∈ f.filter fun c => decide (hue l c = 0) := by rw [e]; simp
      rw [List.mem_filter, decide_eq_true_iff] at hc
      have hnd : (f.filter fun c => decide (hue l c = 0)).Nodup := (zca hf).sublist List.filter_sublist
      have hcm : get ms c = none := by
        cases q : get ms c with
        | none => rfl
        | some y =>
          have hp := hin c hc.2 (by rw [q]; rfl)
          rw [e, List.nodup_append] at hnd
          exact absurd rfl (hnd.2.2 c hp c List.mem_cons_self)
      · obtain ⟨b, ms', tr', hF⟩ := zym hl hf hm (f.length + 1) c [] (n + 28) (by have := zvx f []; omega) (by omega) ⟨by simp, fun x h => by cases h⟩ hc.1 hc.2 (.inl hcm)
        have heq := hF.eq
        have ex : zaS (zas U zat (n + 28)) zat zlJ ((amE f l ms o').set 3 (some (.val (cD c)))) = some (.nx, amE f l ms' (some (.val (cD c)))) := by
          rw [show tD [] = .dct true [] [] from rfl] at heq
          simp [zlJ, amE, heq]
        refine ⟨_, _, ex, .inl rfl, ?_⟩
        cases b with
        | true =>
          have hS := hF.yes rfl
          refine ⟨ms', T, _, rfl, zmH hl hm hcm hS, fun y hy => ?_, fun x hx hxm o ho => ?_, hsd, fun x hx0 hx1 => ?_⟩
          · obtain ⟨x, e1, e2⟩ := hT y hy
            exact ⟨x, by rw [hS.closed T hT y (hsd y hy) hy]; exact e1, e2⟩
          · rw [List.mem_append, List.mem_singleton] at hx
            rcases hx with z | rfl
            · refine hfr x z ?_ o ho
              cases q : get ms x with
              | none => rfl
              | some y => have := hS.dom x (by rw [q]; rfl); rw [hxm] at this; cases this
            · obtain ⟨y, e1, _⟩ := hS.own
              rw [hxm] at e1; cases e1
          · by_cases z : x = c
            · subst z; simp
            · cases q : get ms x with
              | none => rw [hS.keep x hx0 z (.inl q), q] at hx1; cases hx1
              | some y => exact List.mem_append_left _ (hin x hx0 (by rw [q]; rfl))
        | false =>
          obtain ⟨rfl, hFl⟩ := hF.no rfl
          have side' : ∀ y ∈ tr', hue l y = 1 → True := fun _ _ _ => trivial
          refine ⟨ms', fun y => T y ∨ (y ∈ tr' ∧ hue l y = 1), _, rfl, hm, fun y hy => ?_, fun x hx hxm o ho => ?_, fun y hy => hy.elim (hsd y) And.right, fun x h0 h1 => List.mem_append_left _ (hin x h0 h1)⟩
          · rcases hy with hy | ⟨hy, hy1⟩
            · obtain ⟨x, e1, e2⟩ := hT y hy
              exact ⟨x, e1, fun o ho => .inl (e2 o ho)⟩
            · obtain ⟨x, e1, e2⟩ := hFl.cl y hy (by simp)
              refine ⟨x, e1, fun o ho => .inr ⟨e2 o ho, ?_⟩⟩
              have h0 := (zaX hl (hm.inF _ _ e1).2.2).2 hy1
              exact (zaX hl (zbO.mp ho).2).1 h0
          · rw [List.mem_append, List.mem_singleton] at hx
            rcases hx with z | rfl
            · exact .inl (hfr x z hxm o ho)
            · exact .inr ⟨hFl.all o ho, (zaX hl (zbO.mp ho).2).1 hc.2⟩
  refine ⟨ms, T, { hm with cl := hT, free := fun x hxf h0 => hfr x (by rw [List.mem_filter]; exact ⟨hxf, by simpa using h0⟩), side := hsd }, ?_⟩
  have ch := zbF (n + 24) hl (f := f) (by omega) 0
  rw [zaw U38 rfl]
  simp only [zvi]
  simp [zeO, ch]
  have hx' := hx
  simp only [amE] at hx'
  rw [show D.dct true [] [] = dD [] from rfl, hx']
  simp
end
end LK
namespace LK
open L2.LW
theorem zb2 {α β : Type} {g : α → β} : ∀ {l : List α}, (∀ x ∈ l, ∀ y ∈ l, g x = g y → x = y) → l.Nodup → (l.map g).Nodup
  | [], _, _ => by simp
  | x :: r, h, hn => by
    rw [List.nodup_cons] at hn
    rw [List.map_cons, List.nodup_cons]
    refine ⟨fun z => ?_, zb2 (fun a ha b hb => h a (List.mem_cons_of_mem _ ha) b (List.mem_cons_of_mem _ hb)) hn.2⟩
    rw [List.mem_map] at z
    obtain ⟨y, hy, e⟩ := z
    have := h y (List.mem_cons_of_mem _ hy) x List.mem_cons_self e
    subst this
    exact hn.1 hy
theorem zcj {α β : Type} [DecidableEq β] {l : List α} {m : List β} (g : α → β) (hn : l.Nodup) (hm : ∀ x ∈ l, g x ∈ m) (hi : ∀ x ∈ l, ∀ y ∈ l, g x = g y → x = y) : l.length ≤ m.length := by
  have := zbE (l := l.map g) (m := m) (zb2 hi hn) fun y hy => by
    rw [List.mem_map] at hy
    obtain ⟨x, hx, rfl⟩ := hy
    exact hm x hx
  simpa using this
section
variable {f : List zah} {l : zah}
noncomputable def ze8 (ms : Ms) (c : zah) : zah := (get ms c).getD c
theorem zaO {ms : Ms} {c v : zah} (h : get ms c = some v) : ze8 ms c = v := by unfold ze8; rw [h]; rfl
noncomputable def ml (f : List zah) (l : zah) (ms : Ms) : List zah := f.filter fun c => decide (hue l c = 0) && (get ms c).isSome
theorem zb6 {ms : Ms} {c : zah} : c ∈ ml f l ms ↔ c ∈ f ∧ hue l c = 0 ∧ ∃ v, get ms c = some v := by
  unfold ml
  rw [List.mem_filter, Bool.and_eq_true, decide_eq_true_iff, Option.isSome_iff_exists]
theorem zhX {ms : Ms} (h : f.Nodup) : (ml f l ms).Nodup := h.sublist List.filter_sublist
structure IsCover (f : List zah) (l : zah) (C : List zah) : Prop where
  nd : C.Nodup
  sub : ∀ x ∈ C, x ∈ f
  hit : ∀ a ∈ f, ∀ b ∈ f, zeQ l a b = true → a ∈ C ∨ b ∈ C
theorem Match.inj {ms : Ms} (h : Match f l ms) {a b v : zah} (ha : get ms a = some v) (hb : get ms b = some v) : a = b := by
  have h1 := h.sym _ _ ha
  have h2 := h.sym _ _ hb
  rw [h1] at h2
  exact Option.some.inj h2
theorem zyn (hl : OkL l) (hn : f.Nodup) {ms : Ms} (hm : Match f l ms) {C : List zah} (hC : IsCover f l C) : (ml f l ms).length ≤ C.length := by
  refine zcj (fun x => if x ∈ C then x else ze8 ms x) (zhX hn) (fun x hx => ?_) fun x hx y hy e => ?_
  · obtain ⟨h1, h2, v, h3⟩ := zb6.mp hx
    show (if x ∈ C then x else ze8 ms x) ∈ C
    split
    · assumption
    · rw [zaO h3]
      obtain ⟨_, g2, g3⟩ := hm.inF _ _ h3
      exact (hC.hit x h1 v g2 g3).resolve_left (by assumption)
  · obtain ⟨h1, h2, v, h3⟩ := zb6.mp hx
    obtain ⟨h1', h2', v', h3'⟩ := zb6.mp hy
    have q := (zaX hl (hm.inF _ _ h3).2.2).1 h2
    have q' := (zaX hl (hm.inF _ _ h3').2.2).1 h2'
    simp only [zaO h3, zaO h3'] at e
    split at e <;> split at e
    · exact e
    · subst e; omega
    · subst e; omega
    · subst e; exact hm.inj h3 h3'
open Classical in
theorem zvy (hl : OkL l) (hn : f.Nodup) {ms : Ms} {T : zah → Prop} (h : Final f l ms T) : ∃ C, IsCover f l C ∧ C.length ≤ (ml f l ms).length := by
  let P : zah → Prop := fun c => if hue l c = 0 then ¬ ∀ o ∈ nb f l c, T o else T c
  refine ⟨f.filter fun c => decide (P c), ⟨hn.sublist List.filter_sublist, fun x hx => (List.mem_filter.mp hx).1, fun a ha b hb hab => ?_⟩, ?_⟩
  · have key : ∀ a ∈ f, ∀ b ∈ f, zeQ l a b = true → hue l a = 0 → P a ∨ P b := fun a ha b hb hab h0 => by
      by_cases hT : ∀ o ∈ nb f l a, T o
      · right
        show if hue l b = 0 then _ else _
        rw [if_neg (by have := (zaX hl hab).1 h0; omega)]
        exact hT b (zbO.mpr ⟨hb, hab⟩)
      · left
        show if hue l a = 0 then _ else _
        rw [if_pos h0]; exact hT
    have wrap : ∀ c ∈ f, P c → c ∈ f.filter fun c => decide (P c) := fun c hc hp => List.mem_filter.mpr ⟨hc, by simpa using hp⟩
    rcases zcq (l := l) a with z | z
    · rcases key a ha b hb hab z with q | q
      · exact .inl (wrap a ha q)
      · exact .inr (wrap b hb q)
    · rcases key b hb a ha (by rw [zbt]; exact hab) ((zaX hl hab).2 z) with q | q
      · exact .inr (wrap b hb q)
      · exact .inl (wrap a ha q)
  · have in0 : ∀ c, c ∈ f.filter (fun c => decide (P c)) → hue l c = 0 → (¬ ∀ o ∈ nb f l c, T o) ∧ ∃ v, get ms c = some v := fun c hc h0 => by
      rw [List.mem_filter, decide_eq_true_iff] at hc
      have hp : if hue l c = 0 then ¬ ∀ o ∈ nb f l c, T o else T c := hc.2
      rw [if_pos h0] at hp
      refine ⟨hp, ?_⟩
      cases q : get ms c with
      | none => exact absurd (h.free c hc.1 h0 q) hp
      | some v => exact ⟨v, rfl⟩
    have in1 : ∀ c, c ∈ f.filter (fun c => decide (P c)) → ¬ hue l c = 0 → ∃ v, get ms c = some v ∧ ∀ o ∈ nb f l v, T o := fun c hc h0 => by
      rw [List.mem_filter, decide_eq_true_iff] at hc
      have hp : if hue l c = 0 then ¬ ∀ o ∈ nb f l c, T o else T c := hc.2
      rw [if_neg h0] at hp
      exact h.cl c hp
    refine zcj (fun c => if hue l c = 0 then c else ze8 ms c) (hn.sublist List.filter_sublist) (fun c hc => ?_) fun c hc d hd e => ?_
    · show (if hue l c = 0 then c else ze8 ms c) ∈ ml f l ms
      split
      · rename_i h0
        exact zb6.mpr ⟨(List.mem_filter.mp hc).1, h0, (in0 c hc h0).2⟩
      · rename_i h0
        obtain ⟨v, e1, _⟩ := in1 c hc h0
        obtain ⟨_, g2, g3⟩ := h.inF _ _ e1
        rw [zaO e1]
        have hc1 : hue l c = 1 := by have := zcq (l := l) c; omega
        exact zb6.mpr ⟨g2, (zaX hl g3).2 hc1, c, h.sym _ _ e1⟩
    · have e : (if hue l c = 0 then c else ze8 ms c) = (if hue l d = 0 then d else ze8 ms d) := e
      split at e <;> split at e
      · exact e
      · rename_i h0 h1
        obtain ⟨v, e1, e2⟩ := in1 d hd h1
        rw [zaO e1] at e
        subst e
        exact absurd e2 (in0 c hc h0).1
      · rename_i h0 h1
        obtain ⟨v, e1, e2⟩ := in1 c hc h0
        rw [zaO e1] at e
        subst e
        exact absurd e2 (in0 _ hd h1).1
      · rename_i h0 h1
        obtain ⟨v, e1, _⟩ := in1 c hc h0
        obtain ⟨v', e1', _⟩ := in1 d hd h1
        rw [zaO e1, zaO e1'] at e
        subst e
        exact h.inj e1 e1'
noncomputable def prs (f : List zah) (ms : Ms) : List zah := f.filter fun c => match get ms c with
  | some v => decide (cLt c v)
  | none => false
theorem zf2 {ms : Ms} {c : zah} : c ∈ prs f ms ↔ c ∈ f ∧ ∃ v, get ms c = some v ∧ cLt c v := by
  unfold prs
  rw [List.mem_filter]
  cases e : get ms c <;> simp
theorem zsO (hl : OkL l) {a b : zah} (h : zeQ l a b = true) : a ≠ b := fun e => by subst e; exact zb9 hl h rfl
theorem zsP (hl : OkL l) (hn : f.Nodup) {ms : Ms} (h : Match f l ms) : (prs f ms).length = (ml f l ms).length := by
  apply Nat.le_antisymm
  · refine zcj (fun c => if hue l c = 0 then c else ze8 ms c) (hn.sublist List.filter_sublist) (fun c hc => ?_) fun c hc d hd e => ?_
    · obtain ⟨h1, v, h2, h3⟩ := zf2.mp hc
      obtain ⟨_, g2, g3⟩ := h.inF _ _ h2
      show (if hue l c = 0 then c else ze8 ms c) ∈ ml f l ms
      split
      · exact zb6.mpr ⟨h1, by assumption, v, h2⟩
      · rw [zaO h2]
        have hc1 : hue l c = 1 := by have := zcq (l := l) c; omega
        exact zb6.mpr ⟨g2, (zaX hl g3).2 hc1, c, h.sym _ _ h2⟩
    · obtain ⟨h1, v, h2, h3⟩ := zf2.mp hc
      obtain ⟨h1', v', h2', h3'⟩ := zf2.mp hd
      simp only [zaO h2, zaO h2'] at e
      split at e <;> split at e
      · exact e
      · subst e
        rw [h.sym _ _ h2'] at h2; cases h2
        exact (zjl h3 h3').elim
      · subst e
        rw [h.sym _ _ h2] at h2'; cases h2'
        exact (zjl h3 h3').elim
      · subst e; exact h.inj h2 h2'
  · refine zcj (fun c => if cLt c (ze8 ms c) then c else ze8 ms c) (zhX hn) (fun c hc => ?_) fun c hc d hd e => ?_
    · obtain ⟨h1, h2, v, h3⟩ := zb6.mp hc
      obtain ⟨_, g2, g3⟩ := h.inF _ _ h3
      show (if cLt c (ze8 ms c) then c else ze8 ms c) ∈ prs f ms
      rw [zaO h3]
      split
      · exact zf2.mpr ⟨h1, v, h3, by assumption⟩
      · exact zf2.mpr ⟨g2, c, h.sym _ _ h3, (zjm (zsO hl g3)).resolve_left (by assumption)⟩
    · obtain ⟨h1, h2, v, h3⟩ := zb6.mp hc
      obtain ⟨h1', h2', v', h3'⟩ := zb6.mp hd
      have q := (zaX hl (h.inF _ _ h3).2.2).1 h2
      have q' := (zaX hl (h.inF _ _ h3').2.2).1 h2'
      simp only [zaO h3, zaO h3'] at e
      split at e <;> split at e
      · exact e
      · subst e; omega
      · subst e; omega
      · subst e; exact h.inj h3 h3'
noncomputable def zjv (ms : Ms) (c : zah) : D := .tup [cD c, cD (ze8 ms c)]
theorem zf3 (n : Nat) (hf : f.length ≤ 1000) {ms : Ms} : za1 U zat (n + 1) 39 [fD f, dD ms] = some (.obj true (.lst ((prs f ms).map (zjv ms)))) := by
  rw [zaw U39 rfl]
  have hl' := zbg
  simp only [zvj]
  simp
  rw [zb1 (rs := [.val (fD f)]) (xs := f) (f := cD) (fun c => match get ms c with
    | some v => decide (cLt c v)
    | none => false) (zjv ms)]
  · rw [show (f.filter fun c => match get ms c with
      | some v => decide (cLt c v)
      | none => false) = prs f ms from rfl]
    simp
  · simp
  · rfl
  · omega
  · intro c _
    cases e : get ms c with
    | none => simp [e]
    | some v => simp [e, zjs e]
  · intro c _ h
    cases e : get ms c with
    | none => simp [e] at h
    | some v => simp [zjs e, zjv, zaO e]
theorem zhY (n : Nat) (hl : OkL l) (hf : OkF f) : ∃ ms T, Final f l ms T ∧ za1 U zat (n + 30) 43 [fD f, cD l] = some (.obj true (.lst ((prs f ms).map (zjv ms)))) := by
  have hlen := hf.len
  obtain ⟨ms, T, h1, h2⟩ := zdk n hl hf
  refine ⟨ms, T, h1, ?_⟩
  have h3 := zf3 (n + 28) (f := f) (ms := ms) (by omega)
  rw [zaw U43 rfl]
  simp [zvm, zcF (n + 25) hf, zbo (n + 26) hl, h2, h3]
end
end LK
namespace LK
open L2.LW
section
variable {f : List zah} {l : zah}
noncomputable def caE (f : List zah) (l : zah) (ms : Ms) (k : Int) (s4 : SV) (ar ed : List zah) (s7 s8 s9 : Option SV) : Env :=
  [some (.val (fD f)), some (.val (cD l)), some (.val (dD ms)), some (.val (.int k)), some s4, some (.obj true (lD ar)), some (.val (lD ed)), s7, s8, s9]
structure Ring (f : List zah) (ms : Ms) (T : zah → Prop) (ar0 ar fu : List zah) : Prop where
  nd : ar.Nodup
  sub : ∀ y ∈ ar, y ∈ f ∧ T y
  new : ∃ nw, ar = ar0 ++ nw ∧ fu = nw.map (ze8 ms)
theorem Ring.len {ms : Ms} {T : zah → Prop} {ar0 ar fu : List zah} (h : Ring f ms T ar0 ar fu) : ar.length ≤ f.length ∧ fu.length ≤ f.length := by
  have h1 := zbE h.nd fun y hy => (h.sub y hy).1
  obtain ⟨nw, rfl, rfl⟩ := h.new
  simp at h1 ⊢
  omega
theorem zsQ {a : List zah} {c : zah} : (D.lst (a.map cD ++ [cD c])) = lD (a ++ [c]) := by simp [lD]
theorem zjw {ρ : Env} {i : Nat} {a : List zah} {c : zah} (h : a.length < line) : zuN ρ i (some (.val (cD c))) (some (some (.obj true (lD a)))) = some (.nx, ρ.set i (some (.obj true (lD (a ++ [c]))))) := by
  rw [lD, zhR]
  simp only [Option.bind_some, zfZ, List.length_map, h, if_true, zsQ]
theorem zsR (n : Nat) (hf : f.length ≤ 100) {ms : Ms} {T : zah → Prop} (hT : zc7 f l ms T) {k : Int} {s4 : SV} {ar0 ar fu ed : List zah} {s8 : Option SV} {o : zah} (h : Ring f ms T ar0 ar fu) (hof : o ∈ f) (ho : T o) :
    ∃ ar' fu', zaS (zas U zat n) zat zjh (caE f l ms k s4 ar ed (some (.obj true (lD fu))) s8 (some (.val (cD o)))) = some (.nx, caE f l ms k s4 ar' ed (some (.obj true (lD fu'))) s8 (some (.val (cD o)))) ∧
      Ring f ms T ar0 ar' fu' ∧ o ∈ ar' ∧ ∀ y ∈ ar, y ∈ ar' := by
  have hl' := zbg
  obtain ⟨h1, h2⟩ := h.len
  by_cases hin : o ∈ ar
  · refine ⟨ar, fu, ?_, h, hin, fun y hy => hy⟩
    simp [zjh, caE, zoz, hin]
  · obtain ⟨v, e1, _⟩ := hT o ho
    refine ⟨ar ++ [o], fu ++ [v], ?_, ⟨?_, fun y hy => ?_, ?_⟩, by simp, fun y hy => List.mem_append_left _ hy⟩
    · simp [zjh, caE, zoz, hin, zjs e1]
      rw [zjw (by omega)]
      simp [zjs e1]
      rw [zjw (by omega)]
      simp
    · rw [List.nodup_append]
      refine ⟨h.nd, by simp, fun a ha b hb e => ?_⟩
      simp at hb; subst hb; subst e; exact hin ha
    · rw [List.mem_append, List.mem_singleton] at hy
      rcases hy with z | rfl
      · exact h.sub y z
      · exact ⟨hof, ho⟩
    · obtain ⟨nw, r1, r2⟩ := h.new
      exact ⟨nw ++ [o], by rw [r1]; simp, by rw [r2]; simp [zaO e1]⟩
theorem zsS (n : Nat) (hf : f.length ≤ 100) {ms : Ms} {T : zah → Prop} (hT : zc7 f l ms T) {k : Int} {s4 : SV} {ar0 ar fu ed : List zah} {s9 : Option SV} {x : zah} (h : Ring f ms T ar0 ar fu) (hx : ∀ o ∈ nb f l x, T o) (h9 : za7 (some s9) = true) :
    ∃ ar' fu' s9', zaS (zas U zat (n + 3)) zat zlK (caE f l ms k s4 ar ed (some (.obj true (lD fu))) (some (.val (cD x))) s9) = some (.nx, caE f l ms k s4 ar' ed (some (.obj true (lD fu'))) (some (.val (cD x))) s9') ∧
      Ring f ms T ar0 ar' fu' ∧ (∀ o ∈ nb f l x, o ∈ ar') ∧ (∀ y ∈ ar, y ∈ ar') ∧ za7 (some s9') = true := by
  obtain ⟨ρ', e, ar', fu', s9', rfl, r1, r2, r3, r4⟩ := zbW (i := 9) (body := zaS (zas U zat (n + 3)) zat zjh)
    (fun pre ρ => ∃ ar' fu' s9', ρ = caE f l ms k s4 ar' ed (some (.obj true (lD fu'))) (some (.val (cD x))) s9' ∧ Ring f ms T ar0 ar' fu' ∧ (∀ o ∈ pre, o ∈ ar') ∧ (∀ y ∈ ar, y ∈ ar') ∧ za7 (some s9') = true)
    (xs := nb f l x) (ρ := caE f l ms k s4 ar ed (some (.obj true (lD fu))) (some (.val (cD x))) s9) ⟨ar, fu, s9, rfl, h, fun o ho => (by cases ho), fun y hy => hy, h9⟩
    fun pre o post ρ e zz5 => by
      obtain ⟨ar', fu', s9', eρ, r1, r2, r3, r4⟩ := zz5
      subst eρ
      have ho : o ∈ nb f l x := by rw [e]; simp
      obtain ⟨ar2, fu2, e2, q1, q2, q3⟩ := zsR (n + 3) hf hT (k := k) (s4 := s4) (ed := ed) (s8 := some (.val (cD x))) r1 (zbO.mp ho).1 (hx o ho)
      refine ⟨_, _, e2, .inl rfl, ar2, fu2, _, rfl, q1, fun y hy => ?_, fun y hy => q3 y (r3 y hy), zbl⟩
      rw [List.mem_append, List.mem_singleton] at hy
      rcases hy with z | rfl
      · exact q3 y (r2 y z)
      · exact q2
  refine ⟨ar', fu', s9', ?_, r1, r2, r3, r4⟩
  have cn := zcT n l x (f := f) (by omega : f.length ≤ 1000)
  simp only [zlK, zdj, zeO]
  simp [caE, cn, h9]
  rw [← nb, ← caE, e]
  simp [caE]
theorem zqn (n : Nat) (hf : f.length ≤ 100) {ms : Ms} {T : zah → Prop} (hT : zc7 f l ms T) {k : Int} {s4 : SV} {cr ar ed : List zah} {s7 s8 s9 : Option SV} (h4 : s4 = .val (lD cr) ∨ s4 = .obj true (lD cr)) (hcr : cr.length ≤ 1000) (hed : ∀ x ∈ ed, ∀ o ∈ nb f l x, T o)
    (hnd : ar.Nodup) (hsub : ∀ y ∈ ar, y ∈ f ∧ T y) (h7 : za7 (some s7) = true) (h8 : za7 (some s8) = true) (h9 : za7 (some s9) = true) :
    ∃ ar' fu s7' s8' s9', zaS (zas U zat (n + 3)) zat zlL (caE f l ms k s4 ar ed s7 s8 s9) = some (.nx, caE f l ms k (.obj true (lD (cr ++ fu))) ar' fu s7' s8' s9') ∧
      Ring f ms T ar ar' fu ∧ (∀ x ∈ ed, ∀ o ∈ nb f l x, o ∈ ar') ∧ za7 (some s7') = true ∧ za7 (some s8') = true ∧ za7 (some s9') = true := by
  obtain ⟨ρ', e, ar', fu, s8', s9', rfl, r1, r2, r3, r4⟩ := zbW (i := 8) (body := zaS (zas U zat (n + 3)) zat zlK)
    (fun pre ρ => ∃ ar' fu s8' s9', ρ = caE f l ms k s4 ar' ed (some (.obj true (lD fu))) s8' s9' ∧ Ring f ms T ar ar' fu ∧ (∀ x ∈ pre, ∀ o ∈ nb f l x, o ∈ ar') ∧ za7 (some s8') = true ∧ za7 (some s9') = true)
    (xs := ed) (ρ := caE f l ms k s4 ar ed (some (.obj true (lD []))) s8 s9) ⟨ar, [], s8, s9, rfl, ⟨hnd, hsub, [], by simp, rfl⟩, fun o ho => (by cases ho), h8, h9⟩
    fun pre x post ρ e zz5 => by
      obtain ⟨ar', fu, s8', s9', eρ, r1, r2, r3, r4⟩ := zz5
      subst eρ
      have hx : x ∈ ed := by rw [e]; simp
      obtain ⟨ar2, fu2, s92, e2, q1, q2, q3, q4⟩ := zsS n hf hT (k := k) (s4 := s4) (ed := ed) (s9 := s9') (x := x) r1 (hed x hx) r4
      refine ⟨_, _, e2, .inl rfl, ar2, fu2, _, s92, rfl, q1, fun y hy o ho => ?_, zbl, q4⟩
      rw [List.mem_append, List.mem_singleton] at hy
      rcases hy with z | rfl
      · exact q3 o (r2 y z o ho)
      · exact q2 o ho
  refine ⟨ar', fu, some (.val (lD fu)), s8', s9', ?_, r1, r2, zbl, r3, r4⟩
  have hl' := zbg
  have hlen := r1.len
  have hadd : zal .add [lD cr, lD fu] = some (.obj true (lD (cr ++ fu))) := by
    rw [lD, lD, zrk (by simp; omega)]
    simp [lD]
  simp only [zlL]
  rcases h4 with rfl | rfl
  · simp [caE, h7, h8, zed]
    rw [show zgC (lD ed) = some (ed.map cD) from rfl, show D.lst [] = lD [] from rfl]
    simp only [Option.map_some, Option.bind_some]
    rw [← caE, e]
    simp [caE, hadd]
  · simp [caE, h7, h8, zed]
    rw [show zgC (lD ed) = some (ed.map cD) from rfl, show D.lst [] = lD [] from rfl]
    simp only [Option.map_some, Option.bind_some]
    rw [← caE, e]
    simp [caE, hadd]
structure Crowd (f : List zah) (l : zah) (ms : Ms) (T : zah → Prop) (k : Int) (cr ar : List zah) : Prop where
  nd : ar.Nodup
  sub : ∀ y ∈ ar, y ∈ f ∧ T y
  is : cr = (f.filter fun c => decide (hue l c = k) && !(get ms c).isSome) ++ ar.map (ze8 ms)
  all : ∀ x ∈ cr, ∀ o ∈ nb f l x, o ∈ ar
theorem zlO (n : Nat) (hl : OkL l) (hf : OkF f) {ms : Ms} {T : zah → Prop} (hm : Match f l ms) (hT : zc7 f l ms T) {k : Int} (hfree : ∀ x ∈ f, hue l x = k → get ms x = none → ∀ o ∈ nb f l x, T o) :
    ∃ cr ar, Crowd f l ms T k cr ar ∧ za1 U zat (n + 5) 40 [fD f, cD l, dD ms, .int k] = some (.val (.tup [lD cr, lD ar])) := by
  have hl' := zbg
  have hlen := hf.len
  let cr0 := f.filter fun c => decide (hue l c = k) && !(get ms c).isSome
  have hcr0 : ∀ x ∈ cr0, ∀ o ∈ nb f l x, T o := fun x hx => by
    rw [List.mem_filter, Bool.and_eq_true, decide_eq_true_iff] at hx
    exact hfree x hx.1 hx.2.1 (by simpa using hx.2.2)
  have hcl : cr0.length ≤ 24 := Nat.le_trans (List.length_filter_le _ _) hlen
  obtain ⟨ρ', e, s4, cr, ar, s7, s8, s9, rfl, h4, q1, q2, q3, q4, q5⟩ := zeP (test := evT (za1 U zat (n + 4)) (.prim .gt (.cons (.prim .len (.cons (.var 6) .nil)) (.cons (.int 0) .nil)))) (body := zaS (zas U zat (n + 4)) zat zlL)
    (fun m ρ => ∃ s4 cr ar ed s7 s8 s9, ρ = caE f l ms k s4 ar ed s7 s8 s9 ∧ (s4 = .val (lD cr) ∨ s4 = .obj true (lD cr)) ∧ ar.Nodup ∧ (∀ y ∈ ar, y ∈ f ∧ T y) ∧ cr = cr0 ++ ar.map (ze8 ms) ∧ (∀ x ∈ cr, x ∈ ed ∨ ∀ o ∈ nb f l x, o ∈ ar) ∧ (∀ x ∈ ed, ∀ o ∈ nb f l x, T o) ∧
      (za7 (some s7) = true ∧ za7 (some s8) = true ∧ za7 (some s9) = true) ∧ m = 2 * (f.length - ar.length) + (if ed = [] then 0 else 1))
    (fun ρ => ∃ s4 cr ar s7 s8 s9, ρ = caE f l ms k s4 ar [] s7 s8 s9 ∧ (s4 = .val (lD cr) ∨ s4 = .obj true (lD cr)) ∧ ar.Nodup ∧ (∀ y ∈ ar, y ∈ f ∧ T y) ∧ cr = cr0 ++ ar.map (ze8 ms) ∧ (∀ x ∈ cr, ∀ o ∈ nb f l x, o ∈ ar) ∧ True)
    (m := 2 * f.length + (if cr0 = [] then 0 else 1)) (n := zat) (ρ := caE f l ms k (.val (lD cr0)) [] cr0 none none none) (by unfold zat; split <;> omega)
    ⟨_, cr0, [], cr0, none, none, none, rfl, .inl rfl, by simp, fun y h => (by cases h), by simp, fun x hx => .inl hx, hcr0, ⟨rfl, rfl, rfl⟩, by simp⟩
    fun m ρ zz2 => by
      obtain ⟨s4, cr, ar, ed, s7, s8, s9, eρ, h4, q1, q2, q3, q4, q5, q6, q7⟩ := zz2
      subst eρ
      have ht : evT (za1 U zat (n + 4)) (.prim .gt (.cons (.prim .len (.cons (.var 6) .nil)) (.cons (.int 0) .nil))) (caE f l ms k s4 ar ed s7 s8 s9) = some (decide (0 < ed.length)) := by
        simp [caE, lD]
      by_cases hed : ed = []
      · subst hed
        exact .inl ⟨by rw [ht]; rfl, s4, cr, ar, s7, s8, s9, rfl, h4, q1, q2, q3, fun x hx => (q4 x hx).resolve_left (by simp), trivial⟩
      · have hpos : 0 < ed.length := List.length_pos_iff.mpr hed
        refine .inr ⟨by rw [ht]; simp [hpos], ?_⟩
        have hal := zbE q1 fun y hy => (q2 y hy).1
        have hcrl : cr.length ≤ 1000 := by rw [q3]; simp; omega
        obtain ⟨ar', fu, s7', s8', s9', e2, r1, r2, r3⟩ := zqn (n + 1) (by omega) hT (k := k) h4 hcrl q5 q1 q2 q6.1 q6.2.1 q6.2.2
        obtain ⟨nw, n1, n2⟩ := r1.new
        have hal' := r1.len.1
        refine ⟨_, _, 2 * (f.length - ar'.length) + (if fu = [] then 0 else 1), e2, .inl rfl, ?_, _, cr ++ fu, ar', fu, s7', s8', s9', rfl, .inr rfl, r1.nd, r1.sub, ?_, fun x hx => ?_, fun x hx o ho => ?_, r3, rfl⟩
        · rw [q7, if_neg hed, n2, n1]
          cases nw with
          | nil => simp
          | cons a b => rw [n1] at hal'; simp at hal' ⊢; omega
        · rw [q3, n1, n2]; simp
        · rw [List.mem_append] at hx
          rcases hx with z | z
          · right
            rcases q4 x z with w | w
            · exact r2 x w
            · intro o ho; rw [n1]; exact List.mem_append_left _ (w o ho)
          · exact .inl z
        · rw [n2, List.mem_map] at hx
          obtain ⟨y, hy, rfl⟩ := hx
          obtain ⟨v, e1, e3⟩ := hT y (r1.sub y (by rw [n1]; exact List.mem_append_right _ hy)).2
          rw [zaO e1] at ho
          exact e3 o ho
  refine ⟨cr, ar, ⟨q1, q2, q3, q4⟩, ?_⟩
  have ch := zbF n hl (f := f) (by omega) k
  rw [zaw U40 rfl]
  simp only [zvk, zdj, zfY, zsE]
  rw [zb1 (rs := [.obj true (.lst ((f.filter fun c => decide (hue l c = k)).map cD))]) (xs := f.filter fun c => decide (hue l c = k)) (f := cD) (fun c => !(get ms c).isSome) cD]
  · simp
    have hflt : (f.filter fun a => (get ms a).isNone && decide (hue l a = k)) = cr0 := by
      apply List.filter_congr
      intro x _
      rw [Bool.and_comm]
      cases get ms x <;> rfl
    have e' := e
    rw [hflt, zfY, zox, show (D.lst (cr0.map cD)) = lD cr0 from rfl, show D.lst [] = lD [] from rfl, ← caE, e']
    rcases h4 with rfl | rfl
    · simp [caE]
    · simp [caE]
  · simp [ch]
  · rfl
  · have := List.length_filter_le (fun c => decide (hue l c = k)) f
    omega
  · intro x _
    simp
  · intro x _ _
    simp
theorem zmI (hl : OkL l) {ms : Ms} {T : zah → Prop} (h : Final f l ms T) : ∃ T', zc7 f l ms T' ∧ (∀ x ∈ f, hue l x = 1 → get ms x = none → ∀ o ∈ nb f l x, T' o) ∧ ∀ y, T' y → hue l y = 0 := by
  refine ⟨fun x => x ∈ f ∧ hue l x = 0 ∧ ¬ ∀ o ∈ nb f l x, T o, fun x ⟨hx, h0, hn⟩ => ?_, fun y hy h1 hg o ho => ?_, fun y h => h.2.1⟩
  · cases q : get ms x with
    | none => exact absurd (h.free x hx h0 q) hn
    | some v =>
      refine ⟨v, rfl, fun o ho => ?_⟩
      obtain ⟨_, g2, g3⟩ := h.inF _ _ q
      have hv := (zaX hl g3).1 h0
      rw [zbO] at ho
      refine ⟨ho.1, (zaX hl ho.2).2 hv, fun hT => hn ?_⟩
      have hTv := hT v (zbO.mpr ⟨g2, by rw [zbt]; exact ho.2⟩)
      obtain ⟨x', e1, e2⟩ := h.cl v hTv
      rw [h.sym _ _ q] at e1
      cases e1
      exact e2
  · rw [zbO] at ho
    refine ⟨ho.1, (zaX hl ho.2).2 h1, fun hT => ?_⟩
    obtain ⟨x', e1, _⟩ := h.cl y (hT y (zbO.mpr ⟨hy, by rw [zbt]; exact ho.2⟩))
    rw [hg] at e1; cases e1
noncomputable def inC (l : zah) (cr ar : List zah) (c : zah) : Bool := if hue l c = 0 then decide (c ∉ cr) else decide (c ∈ ar)
theorem zgJ (n : Nat) (hl : OkL l) (c : zah) (cr ar : List zah) : za1 U zat (n + 4) 41 [cD l, cD c, lD cr, lD ar] = some (.val (.bl (inC l cr ar c))) := by
  rw [zaw U41 rfl]
  unfold inC
  have hh := zf1 n hl c
  by_cases h0 : hue l c = 0
  · simp [ztt, hh, h0, zoz]
  · simp [ztt, hh, h0, zye]
noncomputable def zdl (f : List zah) (l : zah) (cr ar : List zah) : List zah := f.filter (inC l cr ar)
noncomputable def zoM (f : List zah) (l : zah) (cr ar : List zah) : List zah := f.filter fun c => !inC l cr ar c
theorem zsT {a b : Bool} : zal .eq [.bl a, .bl b] = some (.val (.bl (a == b))) := by rw [zyd rfl rfl, eqD]
theorem zeS (n : Nat) (hl : OkL l) (hf : OkF f) : ∃ ms T cr ar, Final f l ms T ∧ Crowd f l ms T 0 cr ar ∧ ∀ b, za1 U zat (n + 30) 42 [fD f, cD l, .bl b] = some (.obj true (lD (f.filter fun c => inC l cr ar c == b))) := by
  have hlen := hf.len
  have hl' := zbg
  obtain ⟨ms, T, h1, h2⟩ := zdk n hl hf
  obtain ⟨cr, ar, h3, h4⟩ := zlO (n + 24) hl hf h1.toMatch h1.cl (k := 0) h1.free
  refine ⟨ms, T, cr, ar, h1, h3, fun b => ?_⟩
  rw [zaw U42 rfl]
  simp only [zvl]
  simp [zcF (n + 25) hf, zbo (n + 26) hl, h2, h4]
  rw [zb1 (rs := [.val (fD f)]) (xs := f) (f := cD) (fun c => inC l cr ar c == b) cD]
  · simp [lD]
  · simp
  · rfl
  · omega
  · intro x _
    simp [zgJ (n + 25) hl, zsT]
  · intro x _ _; simp
theorem zcG {cr ar : List zah} {c : zah} : c ∈ zdl f l cr ar ↔ c ∈ f ∧ ((hue l c = 0 ∧ c ∉ cr) ∨ (hue l c ≠ 0 ∧ c ∈ ar)) := by
  unfold zdl inC
  rw [List.mem_filter]
  by_cases h : hue l c = 0 <;> simp [h]
theorem zqo (hl : OkL l) (hn : f.Nodup) {ms : Ms} {T : zah → Prop} {cr ar : List zah} (h : Final f l ms T) (hc : Crowd f l ms T 0 cr ar) : IsCover f l (zdl f l cr ar) ∧ (zdl f l cr ar).length = (ml f l ms).length := by
  have hC : IsCover f l (zdl f l cr ar) := by
    refine ⟨hn.sublist List.filter_sublist, fun x hx => (zcG.mp hx).1, fun a ha b hb hab => ?_⟩
    have key : ∀ a ∈ f, ∀ b ∈ f, zeQ l a b = true → hue l a = 0 → a ∈ zdl f l cr ar ∨ b ∈ zdl f l cr ar := fun a ha b hb hab h0 => by
      by_cases hin : a ∈ cr
      · right
        have h1 := (zaX hl hab).1 h0
        exact zcG.mpr ⟨hb, .inr ⟨by omega, hc.all a hin b (zbO.mpr ⟨hb, hab⟩)⟩⟩
      · exact .inl (zcG.mpr ⟨ha, .inl ⟨h0, hin⟩⟩)
    rcases zcq (l := l) a with z | z
    · exact key a ha b hb hab z
    · exact (key b hb a ha (by rw [zbt]; exact hab) ((zaX hl hab).2 z)).symm
  refine ⟨hC, Nat.le_antisymm ?_ (zyn hl hn h.toMatch hC)⟩
  have in0 : ∀ c, c ∈ f → hue l c = 0 → c ∉ cr → ∃ v, get ms c = some v := fun c hcf h0 hcr => by
    cases q : get ms c with
    | some v => exact ⟨v, rfl⟩
    | none =>
      exfalso
      apply hcr
      rw [hc.is, List.mem_append]
      exact .inl (List.mem_filter.mpr ⟨hcf, by simp [h0, q]⟩)
  refine zcj (fun c => if hue l c = 0 then c else ze8 ms c) hC.nd (fun c hcc => ?_) fun c hcc d hdd e => ?_
  · obtain ⟨g1, g2⟩ := zcG.mp hcc
    show (if hue l c = 0 then c else ze8 ms c) ∈ ml f l ms
    rcases g2 with ⟨g2, g3⟩ | ⟨g2, g3⟩
    · rw [if_pos g2]
      exact zb6.mpr ⟨g1, g2, in0 c g1 g2 g3⟩
    · rw [if_neg g2]
      obtain ⟨v, e1, _⟩ := h.cl c (hc.sub c g3).2
      obtain ⟨_, q2, q3⟩ := h.inF _ _ e1
      rw [zaO e1]
      have hc1 : hue l c = 1 := by have := zcq (l := l) c; omega
      exact zb6.mpr ⟨q2, (zaX hl q3).2 hc1, c, h.sym _ _ e1⟩
  · obtain ⟨g1, g2⟩ := zcG.mp hcc
    obtain ⟨g1', g2'⟩ := zcG.mp hdd
    have e : (if hue l c = 0 then c else ze8 ms c) = (if hue l d = 0 then d else ze8 ms d) := e
    rcases g2 with ⟨g2, g3⟩ | ⟨g2, g3⟩
    · rcases g2' with ⟨g2', g3'⟩ | ⟨g2', g3'⟩
      · rw [if_pos g2, if_pos g2'] at e; exact e
      · rw [if_pos g2, if_neg g2'] at e
        exact absurd (by rw [e, hc.is, List.mem_append]; exact .inr (List.mem_map_of_mem g3')) g3
    · rcases g2' with ⟨g2', g3'⟩ | ⟨g2', g3'⟩
      · rw [if_neg g2, if_pos g2'] at e
        exact absurd (by rw [← e, hc.is, List.mem_append]; exact .inr (List.mem_map_of_mem g3)) g3'
      · rw [if_neg g2, if_neg g2'] at e
        obtain ⟨v, e1, _⟩ := h.cl c (hc.sub c g3).2
        obtain ⟨v', e1', _⟩ := h.cl d (hc.sub d g3').2
        rw [zaO e1, zaO e1'] at e
        subst e
        exact h.inj e1 e1'
theorem zlP {g : List zah} : zal .len [lD g] = some (.val (.int g.length)) := by simp [lD]
end
end LK
namespace LK
open L2.LW
section
variable {α : Type}
noncomputable def dG (g : α → D) (ms : List (zah × α)) : D := .dct true (ms.map fun p => cD p.1) (ms.map fun p => g p.2)
noncomputable def zbX (ms : List (zah × α)) (c : zah) : Option α := (ms.find? fun p => decide (p.1 = c)).map (·.2)
theorem zb3 (p : zah × α) (r : List (zah × α)) (c : zah) : zbX (p :: r) c = if p.1 = c then some p.2 else zbX r c := by
  unfold zbX
  rw [List.find?_cons]
  by_cases h : p.1 = c <;> simp [h]
theorem zaT (c : zah) : ∀ ms : List (zah × α), (zbX ms c).isSome = decide (c ∈ ms.map (·.1))
  | [] => rfl
  | p :: r => by
    rw [zb3, List.map_cons]
    by_cases h : p.1 = c
    · simp [h]
    · rw [if_neg h, zaT c r]
      have : ¬ c = p.1 := fun z => h z.symm
      simp [this]
theorem zf4 (ms : List (zah × α)) : (ms.map fun p => cD p.1) = (ms.map (·.1)).map cD := by rw [List.map_map]; rfl
theorem zlQ {g : α → D} {c : zah} {ms : List (zah × α)} : zal .nin [cD c, dG g ms] = some (.val (.bl (!(zbX ms c).isSome))) := by
  simp only [dG, zal, zqW, ze7, if_true, zeX, zf4, zcp, zaT]
theorem zoN {g : α → D} {ms : List (zah × α)} {c : zah} {v : α} (h : zbX ms c = none) : zhx true (ms.map fun p => cD p.1) (ms.map fun p => g p.2) (cD c) (g v) = dG g (ms ++ [(c, v)]) := by
  unfold zhx
  rw [zf4, zcp, ← zaT, h]
  simp [dG]
theorem zbG {ms : List (zah × α)} {c x : zah} {v : α} (h : zbX ms c = none) : zbX (ms ++ [(c, v)]) x = if x = c then some v else zbX ms x := by
  induction ms with
  | nil =>
    show zbX ((c, v) :: []) x = _
    rw [zb3]
    by_cases e : c = x
    · subst e; simp
    · have : ¬ x = c := fun z => e z.symm
      rw [if_neg e, if_neg this]
  | cons p r ih =>
    rw [zb3] at h
    split at h
    · cases h
    · rename_i hp
      rw [List.cons_append, zb3, zb3, ih h]
      by_cases e : p.1 = x
      · rw [if_pos e, if_pos e, if_neg (fun z => hp (e.trans z))]
      · rw [if_neg e, if_neg e]
theorem zvz {g : α → D} {ρ : Env} {i : Nat} {ms : List (zah × α)} {c : zah} {v : α} (h : zbX ms c = none) (hl : ms.length < line) :
    zkD ρ i (some (.val (cD c))) (some (.val (g v))) (some (some (.obj true (dG g ms)))) = some (.nx, ρ.set i (some (.obj true (dG g (ms ++ [(c, v)]))))) := by
  rw [dG, zot]
  simp only [Option.bind_some, zfZ, ze7, List.length_map, hl, decide_true, Bool.and_self, if_true, zoN h]
end
section
variable (f : List zah) (l : zah)
noncomputable def Bk (goal : zah) : Nat → zah → Prop
  | 0, c => c = goal
  | k + 1, c => Bk goal k c ∨ (c ∈ f ∧ ∃ p, Bk goal k p ∧ zeQ l c p = true)
noncomputable def Lv (goal : zah) (k : Nat) (c : zah) : Prop := Bk f l goal k c ∧ ∀ i, i < k → ¬ Bk f l goal i c
noncomputable abbrev zgK := List (zah × Option zah)
noncomputable def oD : Option zah → D
  | none => .non
  | some c => cD c
structure LOk (goal : zah) (ms : zgK) : Prop where
  nd : (ms.map (·.1)).Nodup
  sub : ∀ c, (zbX ms c).isSome = true → c ∈ f
  root : ∀ c, zbX ms c = some none → c = goal
  next : ∀ c p, zbX ms c = some (some p) → zeQ l c p = true ∧ ∃ j, Lv f l goal (j + 1) c ∧ Lv f l goal j p ∧ (zbX ms p).isSome = true
end
section
variable {f : List zah} {l : zah} {goal : zah}
theorem Bk.mono : ∀ {k m : Nat} {c : zah}, k ≤ m → Bk f l goal k c → Bk f l goal m c
  | k, 0, c, h, b => by have : k = 0 := by omega
                        subst this; exact b
  | k, m + 1, c, h, b => by
    by_cases e : k = m + 1
    · subst e; exact b
    · exact .inl (Bk.mono (by omega) b)
theorem Bk.inF (hg : goal ∈ f) : ∀ {k : Nat} {c : zah}, Bk f l goal k c → c ∈ f
  | 0, c, h => by rw [show c = goal from h]; exact hg
  | k + 1, c, h => by
    rcases h with h | h
    · exact Bk.inF hg h
    · exact h.1
theorem Bk.lv {k : Nat} {c : zah} (h : Bk f l goal k c) : ∃ j, j ≤ k ∧ Lv f l goal j c := by
  induction k with
  | zero => exact ⟨0, Nat.le_refl _, h, fun i hi => by omega⟩
  | succ k ih =>
    by_cases hk : Bk f l goal k c
    · obtain ⟨j, h1, h2⟩ := ih hk
      exact ⟨j, by omega, h2⟩
    · exact ⟨k + 1, Nat.le_refl _, h, fun i hi z => hk (z.mono (by omega))⟩
theorem LOk.len {ms : zgK} (h : LOk f l goal ms) : ms.length ≤ f.length := by
  have := zbE (l := ms.map fun (p : zah × Option zah) => p.1) (m := f) h.nd fun x hx => h.sub x (by rw [zaT]; simpa using hx)
  simpa using this
noncomputable def ltE (f : List zah) (l goal : zah) (ms : zgK) (s4 s5 s6 s7 : Option SV) : Env := [some (.val (fD f)), some (.val (cD l)), some (.val (cD goal)), some (.obj true (dG oD ms)), s4, s5, s6, s7]
theorem zsU (n : Nat) (hf : f.length ≤ 100) {ms : zgK} {fu : List zah} {s4 : Option SV} {k : Nat} {c o : zah} (hm : LOk f l goal ms) (hc : Lv f l goal k c) (hcm : (zbX ms c).isSome = true) (hk : ∀ x, Bk f l goal k x → (zbX ms x).isSome = true) (hof : o ∈ f) (hn : zeQ l c o = true) (hfu : fu.length ≤ 1000) :
    ((zbX ms o).isSome = true ∧ zaS (zas U zat n) zat zha (ltE f l goal ms s4 (some (.obj true (lD fu))) (some (.val (cD c))) (some (.val (cD o)))) = some (.nx, ltE f l goal ms s4 (some (.obj true (lD fu))) (some (.val (cD c))) (some (.val (cD o))))) ∨
    (zbX ms o = none ∧ LOk f l goal (ms ++ [(o, some c)]) ∧ Lv f l goal (k + 1) o ∧ zaS (zas U zat n) zat zha (ltE f l goal ms s4 (some (.obj true (lD fu))) (some (.val (cD c))) (some (.val (cD o)))) =
      some (.nx, ltE f l goal (ms ++ [(o, some c)]) s4 (some (.obj true (lD (fu ++ [o])))) (some (.val (cD c))) (some (.val (cD o))))) := by
  have hl' := zbg
  have hml := hm.len
  cases hg : zbX ms o with
  | some v =>
    refine .inl ⟨rfl, ?_⟩
    simp [zha, ltE, zlQ, hg]
  | none =>
    have hlv : Lv f l goal (k + 1) o := ⟨.inr ⟨hof, c, hc.1, by rw [zbt]; exact hn⟩, fun i hi b => by
      have := hk o (b.mono (by omega))
      rw [hg] at this; cases this⟩
    have hno : o ≠ c := fun e => by subst e; rw [hg] at hcm; cases hcm
    refine .inr ⟨rfl, ⟨?_, fun x hx => ?_, fun x hx => ?_, fun x p hx => ?_⟩, hlv, ?_⟩
    · rw [List.map_append, List.nodup_append]
      refine ⟨hm.nd, by simp, fun a ha b hb e => ?_⟩
      simp at hb; subst hb; subst e
      have : (zbX ms a).isSome = true := by rw [zaT]; simpa using ha
      rw [hg] at this; cases this
    · rw [zbG hg] at hx
      split at hx
      · rename_i e; subst e; exact hof
      · exact hm.sub x hx
    · rw [zbG hg] at hx
      split at hx
      · cases hx
      · exact hm.root x hx
    · rw [zbG hg] at hx
      have up : ∀ y, (zbX ms y).isSome = true → (zbX (ms ++ [(o, some c)]) y).isSome = true := fun y hy => by
        rw [zbG hg]; split
        · rfl
        · exact hy
      split at hx
      · rename_i e
        cases hx; subst e
        exact ⟨by rw [zbt]; exact hn, k, hlv, hc, up _ hcm⟩
      · obtain ⟨h1, j, h2, h3, h4⟩ := hm.next x p hx
        exact ⟨h1, j, h2, h3, up _ h4⟩
    · have e1 : ∀ ρ : Env, zkD ρ 3 (some (.val (cD o))) (some (.val (cD c))) (some (some (.obj true (dG oD ms)))) = some (.nx, ρ.set 3 (some (.obj true (dG oD (ms ++ [(o, some c)]))))) := fun ρ => zvz (g := oD) (v := some c) hg (by omega)
      have e2 : ∀ (ρ : Env), zuN ρ 5 (some (.val (cD o))) (some (some (.obj true (lD fu)))) = some (.nx, ρ.set 5 (some (.obj true (lD (fu ++ [o]))))) := fun ρ => by
        rw [lD, zhR]
        have : fu.length < line := by omega
        simp only [Option.bind_some, zfZ, List.length_map, this, if_true]
        simp [lD]
      simp [zha, ltE, zlQ, hg, e1, e2]
structure Rg (f : List zah) (l goal : zah) (k : Nat) (ms0 ms : zgK) (fu : List zah) : Prop extends LOk f l goal ms where
  old : ∀ x, Bk f l goal k x → (zbX ms x).isSome = true
  fu_ : ∀ x, x ∈ fu ↔ (zbX ms x).isSome = true ∧ Lv f l goal (k + 1) x
  up : ∀ x, (zbX ms x).isSome = true → Bk f l goal (k + 1) x
  nd2 : fu.Nodup
  cnt : ms.length = ms0.length + fu.length
theorem zsV (n : Nat) (hf : f.length ≤ 100) {ms0 ms : zgK} {fu : List zah} {s4 s7 : Option SV} {k : Nat} {c : zah} (h : Rg f l goal k ms0 ms fu) (hc : Lv f l goal k c) (h7 : za7 (some s7) = true) :
    ∃ ms' fu' s7', zaS (zas U zat (n + 3)) zat zlH (ltE f l goal ms s4 (some (.obj true (lD fu))) (some (.val (cD c))) s7) = some (.nx, ltE f l goal ms' s4 (some (.obj true (lD fu'))) (some (.val (cD c))) s7') ∧
      Rg f l goal k ms0 ms' fu' ∧ (∀ o ∈ nb f l c, (zbX ms' o).isSome = true) ∧ (∀ x, (zbX ms x).isSome = true → (zbX ms' x).isSome = true) ∧ za7 (some s7') = true := by
  obtain ⟨ρ', e, ms', fu', s7', rfl, r1, r2, r3, r4⟩ := zbW (i := 7) (body := zaS (zas U zat (n + 3)) zat zha)
    (fun pre ρ => ∃ ms' fu' s7', ρ = ltE f l goal ms' s4 (some (.obj true (lD fu'))) (some (.val (cD c))) s7' ∧ Rg f l goal k ms0 ms' fu' ∧ (∀ o ∈ pre, (zbX ms' o).isSome = true) ∧ (∀ x, (zbX ms x).isSome = true → (zbX ms' x).isSome = true) ∧ za7 (some s7') = true)
    (xs := nb f l c) (ρ := ltE f l goal ms s4 (some (.obj true (lD fu))) (some (.val (cD c))) s7) ⟨ms, fu, s7, rfl, h, fun o ho => (by cases ho), fun y hy => hy, h7⟩
    fun pre o post ρ e zz5 => by
      obtain ⟨ms', fu', s7', eρ, r1, r2, r3, r4⟩ := zz5
      subst eρ
      have ho : o ∈ nb f l c := by rw [e]; simp
      have hlen := r1.len
      have hcnt := r1.cnt
      rcases zsU (n + 3) hf (fu := fu') (s4 := s4) r1.toLOk hc (r1.old c hc.1) r1.old (zbO.mp ho).1 (zbO.mp ho).2 (by omega) with ⟨q1, e2⟩ | ⟨q1, q2, q3, e2⟩
      · refine ⟨_, _, e2, .inl rfl, ms', fu', _, rfl, r1, fun y hy => ?_, r3, zbl⟩
        rw [List.mem_append, List.mem_singleton] at hy
        rcases hy with z | rfl
        · exact r2 y z
        · exact q1
      · have up : ∀ y, (zbX ms' y).isSome = true → (zbX (ms' ++ [(o, some c)]) y).isSome = true := fun y hy => by
          rw [zbG q1]; split
          · rfl
          · exact hy
        refine ⟨_, _, e2, .inl rfl, _, _, _, rfl, { q2 with old := fun x hx => up x (r1.old x hx), fu_ := fun x => ?_, up := fun x hx => ?_, nd2 := ?_, cnt := ?_ }, fun y hy => ?_, fun x hx => up x (r3 x hx), zbl⟩
        · rw [List.mem_append, List.mem_singleton, r1.fu_ x, zbG q1]
          by_cases ex : x = o
          · subst ex; simp [q3]
          · simp [ex]
        · rw [zbG q1] at hx
          split at hx
          · rename_i ex; rw [ex]; exact q3.1
          · exact r1.up x hx
        · rw [List.nodup_append]
          refine ⟨r1.nd2, by simp, fun a ha b hb eab => ?_⟩
          simp at hb; subst hb; subst eab
          have := ((r1.fu_ a).mp ha).1
          rw [q1] at this; cases this
        · simp; omega
        · rw [List.mem_append, List.mem_singleton] at hy
          rcases hy with z | rfl
          · exact up y (r2 y z)
          · rw [zbG q1]; simp
  refine ⟨ms', fu', s7', ?_, r1, r2, r3, r4⟩
  have cn := zcT n l c (f := f) (by omega : f.length ≤ 1000)
  simp only [zlH, zdj, zeO]
  simp [ltE, cn, h7]
  rw [← nb, ← ltE, e]
  simp [ltE]
theorem zqp (n : Nat) (hf : f.length ≤ 100) {ms : zgK} {ed : List zah} {s5 s6 s7 : Option SV} {k : Nat} (hm : LOk f l goal ms) (hk : ∀ x, Bk f l goal k x ↔ (zbX ms x).isSome = true) (hed : ∀ x, x ∈ ed ↔ Lv f l goal k x)
    {s4 : Option SV} (hs4 : s4 = some (.val (lD ed)) ∨ s4 = some (.obj true (lD ed))) (h5 : za7 (some s5) = true) (h6 : za7 (some s6) = true) (h7 : za7 (some s7) = true) :
    ∃ ms' fu s5' s6' s7', zaS (zas U zat (n + 3)) zat zlI (ltE f l goal ms s4 s5 s6 s7) = some (.nx, ltE f l goal ms' (some (.val (lD fu))) s5' s6' s7') ∧
      LOk f l goal ms' ∧ (∀ x, Bk f l goal (k + 1) x ↔ (zbX ms' x).isSome = true) ∧ (∀ x, x ∈ fu ↔ Lv f l goal (k + 1) x) ∧ ms'.length = ms.length + fu.length ∧ za7 (some s5') = true ∧ za7 (some s6') = true ∧ za7 (some s7') = true := by
  have f0 : ∀ x, x ∈ ([] : List zah) ↔ (zbX ms x).isSome = true ∧ Lv f l goal (k + 1) x := fun x => by
    constructor
    · intro z; cases z
    · rintro ⟨z1, z2⟩; exact absurd ((hk x).mpr z1) (z2.2 k (Nat.lt_succ_self k))
  have R0 : Rg f l goal k ms ms [] := { hm with old := fun x => (hk x).mp, fu_ := f0, up := fun x hx => .inl ((hk x).mpr hx), nd2 := by simp, cnt := by simp }
  obtain ⟨ρ', e, ms', fu, s6', s7', rfl, r1, r2, r3, r4⟩ := zbW (i := 6) (body := zaS (zas U zat (n + 3)) zat zlH)
    (fun pre ρ => ∃ ms' fu s6' s7', ρ = ltE f l goal ms' (some (.val (lD ed))) (some (.obj true (lD fu))) s6' s7' ∧ Rg f l goal k ms ms' fu ∧ (∀ x ∈ pre, ∀ o ∈ nb f l x, (zbX ms' o).isSome = true) ∧ za7 (some s6') = true ∧ za7 (some s7') = true)
    (xs := ed) (ρ := ltE f l goal ms (some (.val (lD ed))) (some (.obj true (lD []))) s6 s7) ⟨ms, [], s6, s7, rfl, R0, fun o ho => (by cases ho), h6, h7⟩
    fun pre x post ρ e zz5 => by
      obtain ⟨ms', fu, s6', s7', eρ, r1, r2, r3, r4⟩ := zz5
      subst eρ
      have hx : x ∈ ed := by rw [e]; simp
      obtain ⟨ms2, fu2, s72, e2, q1, q2, q3, q4⟩ := zsV n hf (s4 := some (.val (lD ed))) (s7 := s7') r1 ((hed x).mp hx) r4
      refine ⟨_, _, e2, .inl rfl, ms2, fu2, _, s72, rfl, q1, fun y hy o ho => ?_, zbl, q4⟩
      rw [List.mem_append, List.mem_singleton] at hy
      rcases hy with z | rfl
      · exact q3 o (r2 y z o ho)
      · exact q2 o ho
  have full : ∀ x, Bk f l goal (k + 1) x ↔ (zbX ms' x).isSome = true := fun x => by
    refine ⟨fun b => ?_, r1.up x⟩
    rcases b with b | ⟨hxf, p, hp, hn⟩
    · exact r1.old x b
    · by_cases hb : Bk f l goal k x
      · exact r1.old x hb
      · obtain ⟨j, hj, hlv⟩ := hp.lv
        have : j = k := by
          by_cases e : j = k
          · exact e
          · exact absurd (Bk.mono (k := j + 1) (by omega) (.inr ⟨hxf, p, hlv.1, hn⟩)) hb
        subst this
        exact r2 p ((hed p).mpr hlv) x (zbO.mpr ⟨hxf, by rw [zbt]; exact hn⟩)
  refine ⟨ms', fu, some (.val (lD fu)), s6', s7', ?_, r1.toLOk, full, fun x => ?_, r1.cnt, zbl, r3, r4⟩
  · simp only [zlI]
    rcases hs4 with rfl | rfl
    · simp [ltE, h5, h6, zed]
      rw [show zgC (lD ed) = some (ed.map cD) from rfl, show D.lst [] = lD [] from rfl]
      simp only [Option.map_some, Option.bind_some]
      rw [← ltE, e]
      simp [ltE]
    · simp [ltE, h5, h6, zed]
      rw [show zww [some (SV.val (fD f)), some (SV.val (cD l)), some (SV.val (cD goal)), some (SV.obj true (dG oD ms)), some (SV.obj true (lD ed)), some (SV.obj true (D.lst [])), s6, s7] 4 (some (some (SV.obj true (lD ed)))) = some (ed.map cD, ltE f l goal ms (some (.val (lD ed))) (some (.obj true (lD []))) s6 s7) from rfl]
      simp only [Option.map_some, Option.bind_some]
      rw [e]
      simp [ltE]
  · rw [r1.fu_ x]
    exact ⟨fun z => z.2, fun z => ⟨(full x).mp z.1, z⟩⟩
structure LFull (f : List zah) (l goal : zah) (ms : zgK) : Prop extends LOk f l goal ms where
  all : ∀ x, (zbX ms x).isSome = true ↔ ∃ k, Bk f l goal k x
theorem zkK (n : Nat) (hf : f.length ≤ 100) (hg : goal ∈ f) : ∃ ms, LFull f l goal ms ∧ za1 U zat (n + 4) 20 [fD f, cD l, cD goal] = some (.obj true (dG oD ms)) := by
  have ms0 : LOk f l goal [(goal, none)] := by
    refine ⟨by simp, fun c hc => ?_, fun c hc => ?_, fun c p hc => ?_⟩
    · rw [zaT] at hc; simp at hc; subst hc; exact hg
    · rw [zb3] at hc; split at hc
      · rename_i z; exact z.symm
      · cases hc
    · rw [zb3] at hc; split at hc
      · cases hc
      · cases hc
  obtain ⟨ρ', e, ms, s4, s5, s6, s7, rfl, h1, h2⟩ := zeP (test := evT (za1 U zat (n + 3)) (.prim .gt (.cons (.prim .len (.cons (.var 4) .nil)) (.cons (.int 0) .nil)))) (body := zaS (zas U zat (n + 3)) zat zlI)
    (fun m ρ => ∃ k ms ed s4 s5 s6 s7, ρ = ltE f l goal ms s4 s5 s6 s7 ∧ (s4 = some (.val (lD ed)) ∨ s4 = some (.obj true (lD ed))) ∧ LOk f l goal ms ∧ (∀ x, Bk f l goal k x ↔ (zbX ms x).isSome = true) ∧ (∀ x, x ∈ ed ↔ Lv f l goal k x) ∧ (za7 (some s5) = true ∧ za7 (some s6) = true ∧ za7 (some s7) = true) ∧ m = 2 * (f.length - ms.length) + (if ed = [] then 0 else 1))
    (fun ρ => ∃ ms s4 s5 s6 s7, ρ = ltE f l goal ms s4 s5 s6 s7 ∧ LFull f l goal ms ∧ True)
    (m := 2 * (f.length - 1) + 1) (n := zat) (ρ := ltE f l goal [(goal, none)] (some (.obj true (lD [goal]))) none none none) (by unfold zat; omega)
    ⟨0, _, [goal], _, none, none, none, rfl, .inr rfl, ms0, fun x => by
        rw [zaT]; simp [Bk], fun x => by
        rw [List.mem_singleton]; exact ⟨fun z => ⟨z, fun i hi => by omega⟩, fun z => z.1⟩, ⟨rfl, rfl, rfl⟩, by simp⟩
    fun m ρ zz2 => by
      obtain ⟨k, ms, ed, s4, s5, s6, s7, eρ, hs4, q1, q2, q3, q4, q5⟩ := zz2
      subst eρ
      have ht : evT (za1 U zat (n + 3)) (.prim .gt (.cons (.prim .len (.cons (.var 4) .nil)) (.cons (.int 0) .nil))) (ltE f l goal ms s4 s5 s6 s7) = some (decide (0 < ed.length)) := by
        rcases hs4 with rfl | rfl
        · simp [ltE, lD]
        · simp [ltE, lD]
      by_cases hed : ed = []
      · subst hed
        refine .inl ⟨by rw [ht]; rfl, ms, s4, s5, s6, s7, rfl, { q1 with all := fun x => ⟨fun z => ⟨k, (q2 x).mpr z⟩, fun ⟨j, hj⟩ => ?_⟩ }, trivial⟩
        have none_ : ∀ j x, Bk f l goal j x → Bk f l goal k x := by
          intro j
          induction j with
          | zero => intro x hx; exact hx.mono (Nat.zero_le k)
          | succ j ih =>
            intro x hx
            rcases hx with hx | ⟨hxf, p, hp, hn⟩
            · exact ih x hx
            · obtain ⟨i, hi, hlv⟩ := (ih p hp).lv
              by_cases e : i = k
              · subst e; exact absurd ((q3 p).mpr hlv) (by simp)
              · exact Bk.mono (k := i + 1) (by omega) (.inr ⟨hxf, p, hlv.1, hn⟩)
        exact (q2 x).mp (none_ j x hj)
      · have hpos : 0 < ed.length := List.length_pos_iff.mpr hed
        refine .inr ⟨by rw [ht]; simp [hpos], ?_⟩
        obtain ⟨ms', fu, s5', s6', s7', e2, r1, r2, r3, r4, r5⟩ := zqp n hf q1 q2 q3 hs4 q4.1 q4.2.1 q4.2.2
        have hl1 := r1.len
        refine ⟨_, _, 2 * (f.length - ms'.length) + (if fu = [] then 0 else 1), e2, .inl rfl, ?_, k + 1, ms', fu, _, s5', s6', s7', rfl, .inl rfl, r1, r2, r3, r5, rfl⟩
        rw [q5, if_neg hed]
        cases fu with
        | nil => simp at r4 ⊢; omega
        | cons a b => simp at r4 ⊢; omega
  refine ⟨ms, h1, ?_⟩
  rw [zaw U20 rfl]
  simp only [zva]
  simp [zfY]
  rw [show D.dct true [cD goal] [D.non] = dG oD [(goal, none)] from rfl, show D.lst [cD goal] = lD [goal] from rfl, ← ltE, e]
  simp [ltE]
end
end LK
namespace LK
open L2.LW
theorem zjx {α : Type} {R : α → α → Prop} (ir : ∀ a, ¬ R a a) (as : ∀ a b, R a b → R b a → False) : ∀ {l m : List α}, l.Pairwise R → m.Pairwise R → (∀ x, x ∈ l ↔ x ∈ m) → l = m
  | [], [], _, _, _ => rfl
  | [], y :: m, _, _, h => absurd ((h y).mpr List.mem_cons_self) (by simp)
  | x :: l, [], _, _, h => absurd ((h x).mp List.mem_cons_self) (by simp)
  | x :: l, y :: m, hl, hm, h => by
    rw [List.pairwise_cons] at hl hm
    have exy : x = y := by
      rcases List.mem_cons.mp ((h x).mp List.mem_cons_self) with e | e
      · exact e
      · rcases List.mem_cons.mp ((h y).mpr List.mem_cons_self) with e' | e'
        · exact e'.symm
        · exact (as _ _ (hm.1 x e) (hl.1 y e')).elim
    subst exy
    rw [zjx ir as hl.2 hm.2 fun z => ?_]
    constructor
    · intro hz
      rcases List.mem_cons.mp ((h z).mp (List.mem_cons_of_mem _ hz)) with e | e
      · subst e; exact (ir _ (hl.1 z hz)).elim
      · exact e
    · intro hz
      rcases List.mem_cons.mp ((h z).mpr (List.mem_cons_of_mem _ hz)) with e | e
      · subst e; exact (ir _ (hm.1 z hz)).elim
      · exact e
noncomputable def cl (c : zah) : List Int := [c.1, c.2]
theorem zrq {a b : zah} (h : cl a = cl b) : a = b := by
  simp [cl] at h; exact Prod.ext h.1 h.2
theorem zyo {a b : zah} (h : cLt a b) : zm9 (cl a) (cl b) := by
  show L2.LW.lexLt [a.1, a.2] [b.1, b.2] = true
  simp only [L2.LW.lexLt]
  unfold cLt at h
  by_cases e : a.1 = b.1
  · have : ¬ a.2 = b.2 := by omega
    have h2 : a.2 < b.2 := by omega
    simp [e, this, h2]
  · have h2 : a.1 < b.1 := by omega
    simp [e, h2]
theorem zhg : ∀ L : List zah, tups? (L.map cD) = some (L.map cl)
  | [] => rfl
  | c :: r => by simp [tups?, cD, ints?, zhg r, cl]
theorem zmJ {L g : List zah} (hL : L.Nodup) (hg : g.Pairwise cLt) (h : ∀ x, x ∈ L ↔ x ∈ g) : zgD (L.map cl) = g.map cl := by
  have nd : (L.map cl).Nodup := by
    rw [List.Nodup, List.pairwise_map]; exact hL.imp fun ne e => ne (zrq e)
  have up := zfB nd
  have up2 : (g.map cl).Pairwise zm9 := by rw [List.pairwise_map]; exact hg.imp zyo
  refine zjx (R := zm9) (fun a z => by have := zbv a; rw [show L2.LW.lexLt a a = true from z] at this; cases this) (fun a b z1 z2 => by have := zcB z1 z2; rw [zbv] at this; cases this) up up2 fun x => ?_
  rw [(zcC _).mem_iff, List.mem_map, List.mem_map]
  exact ⟨fun ⟨c, hc, e⟩ => ⟨c, (h c).mp hc, e⟩, fun ⟨c, hc, e⟩ => ⟨c, (h c).mpr hc, e⟩⟩
theorem zef {L g : List zah} (hL : L.Nodup) (hl : L.length < 64) (hg : g.Pairwise cLt) (h : ∀ x, x ∈ L ↔ x ∈ g) : zfN (L.map cD) = some (.obj true (lD g)) := by
  unfold zfN
  have nd : (L.map cl).Nodup := by
    rw [List.Nodup, List.pairwise_map]; exact hL.imp fun ne e => ne (zrq e)
  rw [zhg, Option.bind_some, if_pos ⟨by simpa using hl, nd, by simp [cl]⟩, zmJ hL hg h, List.map_map]
  rfl
theorem zeg {L g : List zah} (h0 : L ≠ []) (hL : L.Nodup) (hl : L.length < 64) (hg : g.Pairwise cLt) (h : ∀ x, x ∈ L ↔ x ∈ g) : zhy (L.map cD) = some (.obj true (lD g)) := by
  unfold zhy
  have : ints? (L.map cD) = none := by
    cases L with
    | nil => exact absurd rfl h0
    | cons c r => rfl
  rw [this]
  exact zef hL hl hg h
section
variable {α : Type} (g : α → D)
theorem zqq {ms : List (zah × α)} {c : zah} {v : α} (h : (zbX ms c).isSome = true) : zhx true (ms.map fun p => cD p.1) (ms.map fun p => g p.2) (cD c) (g v) = dG g (ms.map fun p => if p.1 = c then (p.1, v) else p) := by
  unfold zhx
  rw [zf4, zcp, ← zaT, if_pos h, ← zf4]
  have : ∀ ms : List (zah × α), List.zipWith (fun k' v' => if eqD k' (cD c) = true then g v else v') (ms.map fun p => cD p.1) (ms.map fun p => g p.2) = ms.map fun p => g (if p.1 = c then (p.1, v) else p).2 := by
    intro ms
    induction ms with
    | nil => rfl
    | cons p r ih =>
      rw [List.map_cons, List.map_cons, List.zipWith_cons_cons, ih, List.map_cons, zji]
      by_cases h : p.1 = c <;> simp [h]
  rw [this]
  unfold dG
  rw [List.map_map, List.map_map]
  congr 1
  apply List.map_congr_left
  intro p _
  show cD p.1 = cD (if p.1 = c then (p.1, v) else p).1
  split <;> rfl
theorem zoO : ∀ (ms2 ms : List (zah × α)), ∃ ms' : List (zah × α), zdb (ms.map fun p => cD p.1) (ms.map fun p => g p.2) (ms2.map fun p => cD p.1) (ms2.map fun p => g p.2) = (ms'.map (fun p => cD p.1), ms'.map fun p => g p.2) ∧
    (∀ c, (zbX ms' c).isSome = ((zbX ms c).isSome || (zbX ms2 c).isSome)) ∧ ms'.length ≤ ms.length + ms2.length
  | [], ms => ⟨ms, by simp [zdb], fun c => by simp [zbX], by simp⟩
  | p :: r, ms => by
    have st : ∃ ms1 : List (zah × α), zhx true (ms.map fun p => cD p.1) (ms.map fun p => g p.2) (cD p.1) (g p.2) = dG g ms1 ∧ (∀ c, (zbX ms1 c).isSome = ((zbX ms c).isSome || decide (p.1 = c))) ∧ ms1.length ≤ ms.length + 1 := by
      by_cases h : (zbX ms p.1).isSome = true
      · refine ⟨_, zqq g h, fun c => ?_, by simp⟩
        have hk : ((ms.map fun q => if q.1 = p.1 then (q.1, p.2) else q).map (·.1)) = ms.map (·.1) := by
          rw [List.map_map]; apply List.map_congr_left; intro q _
          show (if q.1 = p.1 then (q.1, p.2) else q).1 = q.1
          split <;> rfl
        rw [zaT, hk, ← zaT]
        by_cases e : p.1 = c
        · subst e; simp [h]
        · simp [e]
      · have h' : zbX ms p.1 = none := by simpa using h
        refine ⟨_, zoN h', fun c => ?_, by simp⟩
        rw [zbG h']
        by_cases e : c = p.1
        · subst e; simp
        · have : ¬ p.1 = c := fun z => e z.symm
          simp [e, this]
    obtain ⟨ms1, e1, e2, e3⟩ := st
    obtain ⟨ms', f1, f2, f3⟩ := zoO r ms1
    refine ⟨ms', ?_, fun c => ?_, by simp; omega⟩
    · rw [List.map_cons, List.map_cons, zdb, e1]
      exact f1
    · rw [f2, e2, zb3]
      by_cases e : p.1 = c
      · simp [e]
      · simp [e]
end
theorem zkL {α : Type} {g : α → D} {ms : List (zah × α)} (h : ∀ c ∈ ms.map (·.1), okC c) : (ms.map fun p => cD p.1).all ziS = true := by
  rw [List.all_eq_true]
  intro d hd
  rw [List.mem_map] at hd
  obtain ⟨p, hp, rfl⟩ := hd
  have := h p.1 (List.mem_map.mpr ⟨p, hp, rfl⟩)
  unfold okC at this
  simp [cD, ziS]; omega
noncomputable def zhh (f : List zah) (l c : zah) : List zah := f.filter fun x => @decide (∃ k, Bk f l c k x) (Classical.propDecidable _)
theorem zbZ {f : List zah} {l c x : zah} : x ∈ zhh f l c ↔ x ∈ f ∧ ∃ k, Bk f l c k x := by
  unfold zhh; rw [List.mem_filter]; simp
noncomputable def zaU (f : List zah) (l : zah) : List zah → List (List zah) → List (List zah)
  | [], acc => acc
  | c :: r, acc => if c ∈ acc.flatten then zaU f l r acc else zaU f l r (acc ++ [zhh f l c])
noncomputable def zfo (f : List zah) (l : zah) : List (List zah) := zaU f l f []
noncomputable def llD (P : List (List zah)) : D := .lst (P.map lD)
theorem zjy {f : List zah} {l c : zah} (h : c ∈ f) : c ∈ zhh f l c := zbZ.mpr ⟨h, 0, rfl⟩
end LK
namespace LK
open L2.LW
theorem zb4 {f : List zah} {l x : zah} : ∀ {g : List zah} {acc : List (List zah)}, zaU f l (g ++ [x]) acc = if x ∈ (zaU f l g acc).flatten then zaU f l g acc else zaU f l g acc ++ [zhh f l x]
  | [], acc => by
    show zaU f l [x] acc = _
    rw [zaU]
    rfl
  | c :: r, acc => by
    rw [List.cons_append, zaU, zaU]
    split
    · exact zb4
    · exact zb4
theorem zjz {f : List zah} {l c : zah} (h : f.Pairwise cLt) : (zhh f l c).Pairwise cLt := h.filter _
section
variable {f : List zah} {l : zah}
noncomputable def pwE (f : List zah) (l : zah) (acc : List (List zah)) (ms : zgK) (s4 s5 : Option SV) : Env := [some (.val (fD f)), some (.val (cD l)), some (.obj true (llD acc)), some (.obj true (dG oD ms)), s4, s5]
theorem zsW (n : Nat) (hf : OkF f) {acc : List (List zah)} {ms : zgK} {c : zah} {s5 : Option SV} (hc : c ∈ f) (hm : ∀ x, (zbX ms x).isSome = decide (x ∈ acc.flatten)) (hl : ms.length ≤ 1000) (ha : acc.length ≤ 1000) (h5 : za7 (some s5) = true) :
    ∃ ms' s5', zaS (zas U zat (n + 4)) zat zjg (pwE f l acc ms (some (.val (cD c))) s5) = some (.nx, pwE f l (if c ∈ acc.flatten then acc else acc ++ [zhh f l c]) ms' (some (.val (cD c))) s5') ∧
      (∀ x, (zbX ms' x).isSome = decide (x ∈ (if c ∈ acc.flatten then acc else acc ++ [zhh f l c]).flatten)) ∧ ms'.length ≤ ms.length + 24 ∧ za7 (some s5') = true := by
  have hl' := zbg
  by_cases hin : c ∈ acc.flatten
  · refine ⟨ms, s5, ?_, by simpa [hin] using hm, by omega, h5⟩
    have h1 := hm c
    rw [decide_eq_true hin] at h1
    rw [if_pos hin]
    simp [zjg, pwE, zlQ, h1]
  · have hlen := hf.len
    obtain ⟨ms2, q, e2⟩ := zkK (l := l) n (by omega : f.length ≤ 100) hc
    obtain ⟨ms', f1, f2, f3⟩ := zoO oD ms2 ms
    have len2 := q.toLOk.len
    have h1 := hm c
    rw [decide_eq_false hin] at h1
    have sub : ∀ x, x ∈ ms2.map (·.1) ↔ x ∈ zhh f l c := fun x => by
      rw [zbZ, ← q.all x, zaT, decide_eq_true_iff]
      refine ⟨fun z => ⟨q.sub x (by rw [zaT, decide_eq_true_iff]; exact z), z⟩, fun z => z.2⟩
    have sk : zal .skeys [dG oD ms2] = some (.obj true (lD (zhh f l c))) := by
      show zfN (ms2.map fun p => cD p.1) = _
      rw [zf4]
      exact zef q.nd (by rw [List.length_map]; omega) (zjz hf.rise) sub
    have ed : ∀ s4, znD (pwE f l acc ms s4 (some (.obj true (dG oD ms2)))) 3 5 = some (.nx, pwE f l acc ms' s4 (some (.obj true (dG oD ms2)))) := fun s4 => by
      show zpO _ 3 (.obj true (dG oD ms)) (some (dG oD ms)) (some (dG oD ms2)) = _
      unfold dG
      have sm := zkL (g := oD) (ms := ms2) fun x hx => hf.cells x (zbZ.mp ((sub x).mp hx)).1
      have le : ms.length + ms2.length < line := by omega
      simp only [zpO, sm, List.length_map, le, decide_true, Bool.and_self, if_true, f1]
      rfl
    have ap : ∀ (ρ : Env), zuN ρ 2 (some (.obj true (lD (zhh f l c)))) (some (some (.obj true (llD acc)))) = some (.nx, ρ.set 2 (some (.obj true (llD (acc ++ [zhh f l c]))))) := fun ρ => by
      rw [llD, zhR]
      have : acc.length < line := by omega
      simp only [Option.bind_some, zsF, List.length_map, this, if_true]
      simp [llD]
    refine ⟨ms', some (.obj true (dG oD ms2)), ?_, fun x => ?_, by omega, zos⟩
    · rw [if_neg hin]
      simp [zjg, pwE, zlQ, h1, e2, h5]
      rw [← pwE, ed]
      simp [pwE, sk, ap]
    · rw [if_neg hin, f2, hm, List.flatten_append, Bool.eq_iff_iff]
      have : (zbX ms2 x).isSome = decide (x ∈ zhh f l c) := by rw [zaT, Bool.eq_iff_iff]; simp [sub x]
      rw [this]
      simp
theorem zf5 (n : Nat) (hf : OkF f) : za1 U zat (n + 5) 30 [fD f, cD l] = some (.obj true (llD (zfo f l))) := by
  have hlen := hf.len
  obtain ⟨ρ', e, ms, s4, s5, rfl, _⟩ := zbW (i := 4) (body := zaS (zas U zat (n + 4)) zat zjg)
    (fun pre ρ => ∃ ms s4 s5, ρ = pwE f l (zaU f l pre []) ms s4 s5 ∧ (∀ x, (zbX ms x).isSome = decide (x ∈ (zaU f l pre []).flatten)) ∧ ms.length ≤ 24 * pre.length ∧ (zaU f l pre []).length ≤ pre.length ∧ za7 (some s5) = true)
    (xs := f) (ρ := pwE f l [] [] none none) ⟨[], none, none, rfl, fun x => by simp [zaU, zbX], by simp, by simp [zaU], rfl⟩
    fun pre c post ρ e zz5 => by
      obtain ⟨ms, s4, s5, eρ, r1, r2, r3, r4⟩ := zz5
      subst eρ
      have hc : c ∈ f := by rw [e]; simp
      have hp : pre.length < f.length := by rw [e]; simp
      obtain ⟨ms', s5', e2, q1, q2, q3⟩ := zsW (l := l) n hf hc r1 (by omega) (by omega) r4
      refine ⟨_, _, e2, .inl rfl, ms', some (.val (cD c)), s5', ?_, ?_, ?_, ?_, q3⟩
      · rw [zb4]
      · rw [zb4]; exact q1
      · simp; omega
      · rw [zb4]; split <;> simp <;> omega
  rw [zaw U30 rfl]
  simp only [zvg]
  simp [zed]
  rw [show zgC (fD f) = some (f.map cD) from rfl]
  simp only [Option.map_some, Option.bind_some]
  rw [show D.dct true [] [] = dG oD [] from rfl, show D.lst [] = llD [] from rfl, ← pwE, e]
  simp [pwE, zfo]
theorem zkM (n : Nat) (hf : OkF f) (hl : OkL l) : za1 U zat (n + 6) 31 [fD f, cD l] = some (.obj true (llD (zfo f l))) := by
  rw [zaw U31 rfl]
  have h1 := zcF (n + 1) hf
  have h2 := zbo (n + 2) hl
  simp [zvh, h1, h2, zf5 n hf]
end
end LK
namespace LK
open L2.LW
section
variable {f : List zah} {l : zah}
theorem Bk.join {b c : zah} {k : Nat} (h2 : Bk f l c k b) : ∀ {j : Nat} {a : zah}, Bk f l b j a → Bk f l c (k + j) a
  | 0, a, h => by rw [show a = b from h]; exact h2
  | j + 1, a, h => by
    rcases h with h | ⟨ha, p, hp, hn⟩
    · exact .inl (Bk.join h2 h)
    · exact .inr ⟨ha, p, Bk.join h2 hp, hn⟩
theorem Bk.symm {b : zah} (hb : b ∈ f) : ∀ {j : Nat} {a : zah}, a ∈ f → Bk f l b j a → Bk f l a j b
  | 0, a, _, h => by rw [show a = b from h]; exact rfl
  | j + 1, a, ha, h => by
    rcases h with h | ⟨_, p, hp, hn⟩
    · exact .inl (Bk.symm hb ha h)
    · have hpf := hp.inF hb
      have h1 := Bk.symm hb hpf hp
      have h2 : Bk f l a 1 p := .inr ⟨hpf, a, rfl, by rw [zbt]; exact hn⟩
      have := Bk.join h2 h1
      rwa [Nat.add_comm] at this
theorem zcH : ∀ {g : List zah} {acc : List (List zah)}, (∀ x ∈ g, x ∈ f) → (∀ p ∈ acc, ∃ c ∈ f, p = zhh f l c) → ∀ p ∈ zaU f l g acc, ∃ c ∈ f, p = zhh f l c
  | [], acc, _, h => h
  | c :: r, acc, hg, h => by
    rw [zaU]
    split
    · exact zcH (fun x hx => hg x (List.mem_cons_of_mem _ hx)) h
    · refine zcH (fun x hx => hg x (List.mem_cons_of_mem _ hx)) fun p hp => ?_
      rw [List.mem_append, List.mem_singleton] at hp
      rcases hp with hp | rfl
      · exact h p hp
      · exact ⟨c, hg c List.mem_cons_self, rfl⟩
theorem zhi {g : List zah} : ∀ {acc : List (List zah)} {x : zah}, x ∈ acc.flatten → x ∈ (zaU f l g acc).flatten := by
  induction g with
  | nil => intro acc x h; exact h
  | cons c r ih =>
    intro acc x h
    rw [zaU]
    split
    · exact ih h
    · exact ih (by rw [List.flatten_append]; exact List.mem_append_left _ h)
theorem zd0 : ∀ {g : List zah} {acc : List (List zah)}, (∀ x ∈ g, x ∈ f) → ∀ x ∈ g, x ∈ (zaU f l g acc).flatten
  | [], _, _, x, hx => by cases hx
  | c :: r, acc, hg, x, hx => by
    rw [zaU]
    rcases List.mem_cons.mp hx with rfl | hx
    · split
      · rename_i h; exact zhi h
      · exact zhi (by rw [List.flatten_append]; exact List.mem_append_right _ (by simp [zjy (l := l) (hg x List.mem_cons_self)]))
    · split
      · exact zd0 (fun x hx => hg x (List.mem_cons_of_mem _ hx)) x hx
      · exact zd0 (fun x hx => hg x (List.mem_cons_of_mem _ hx)) x hx
end
theorem zf6 : ∀ L : List zah, L.Nodup → ∃ g : List zah, g.Pairwise cLt ∧ ∀ x, x ∈ L ↔ x ∈ g
  | [], _ => ⟨[], .nil, fun x => Iff.rfl⟩
  | c :: r, h => by
    rw [List.nodup_cons] at h
    obtain ⟨g, h1, h2⟩ := zf6 r h.2
    refine ⟨g.filter (fun x => decide (cLt x c)) ++ c :: g.filter (fun x => decide (cLt c x)), ?_, fun x => ?_⟩
    · rw [List.pairwise_append]
      refine ⟨h1.filter _, ?_, fun a ha b hb => ?_⟩
      · rw [List.pairwise_cons]
        exact ⟨fun b hb => by simpa using (List.mem_filter.mp hb).2, h1.filter _⟩
      · have ha' : cLt a c := by simpa using (List.mem_filter.mp ha).2
        rcases List.mem_cons.mp hb with rfl | hb
        · exact ha'
        · exact zjk ha' (by simpa using (List.mem_filter.mp hb).2)
    · rw [List.mem_append, List.mem_cons, List.mem_cons, List.mem_filter, List.mem_filter, h2 x]
      constructor
      · rintro (rfl | hx)
        · exact .inr (.inl rfl)
        · have ne : x ≠ c := fun e => h.1 (by rw [← e, h2]; exact hx)
          rcases zjm ne with z | z
          · exact .inl ⟨hx, by simp [z]⟩
          · exact .inr (.inr ⟨hx, by simp [z]⟩)
      · rintro (⟨hx, _⟩ | rfl | ⟨hx, _⟩)
        · exact .inr hx
        · exact .inl rfl
        · exact .inr hx
noncomputable def swp (c : zah) : zah := (c.2, c.1)
theorem zcu (c : zah) : swp (swp c) = c := rfl
theorem zqr {l : zah} (x y : zah) (h : zeQ l x y = true) : zeQ l (swp x) (swp y) = true := by
  rw [zlN] at h ⊢
  rcases h with ⟨a, b, c⟩ | ⟨a, b, c⟩
  · exact .inr ⟨b, a, c⟩
  · exact .inl ⟨b, a, c⟩
section
variable {f : List zah} {l : zah}
noncomputable def zeT (f : List zah) (l : zah) (k : Int) : List zah := f.filter fun c => decide (hue l c = k)
theorem zmK (n : Nat) (hf : OkF f) (hl : OkL l) : za1 U zat (n + 5) 25 [fD f, cD l] = some (.obj true (.lst [lD (zeT f l 0), lD (zeT f l 1)])) := by
  have hlen := hf.len
  have h0 := zbF n hl (f := f) (by omega) 0
  have h1 := zbF n hl (f := f) (by omega) 1
  rw [zaw U25 rfl]
  simp [zvf, zcF n hf, zbo (n + 1) hl, h0, h1]
  exact ⟨rfl, rfl⟩
end
end LK
namespace LK
open L2.LW
theorem zdm {α : Type} {p : α → Bool} : ∀ {f : List α}, (f.filter p).length + (f.filter fun x => !p x).length = f.length
  | [] => rfl
  | a :: r => by
    have := zdm (p := p) (f := r)
    rw [List.filter_cons, List.filter_cons, List.length_cons]
    cases h : p a
    · simp; omega
    · simp; omega
theorem zrr {α : Type} {g h : α → Nat} : ∀ {P : List α}, (∀ p ∈ P, g p ≤ h p) → (P.map g).sum ≤ (P.map h).sum
  | [], _ => Nat.le_refl _
  | a :: r, z => by
    have h1 := z a List.mem_cons_self
    have h2 := zrr (P := r) fun p hp => z p (List.mem_cons_of_mem _ hp)
    rw [List.map_cons, List.map_cons, List.sum_cons, List.sum_cons]
    omega
section
variable {f : List zah} {l : zah}
noncomputable def Mn (f : List zah) (l : zah) (k : Nat) : Prop := (∃ C, IsCover f l C ∧ C.length = k) ∧ ∀ C, IsCover f l C → k ≤ C.length
theorem Mn.uniq {k k' : Nat} (h : Mn f l k) (h' : Mn f l k') : k = k' := by
  obtain ⟨C, c, e⟩ := h.1
  obtain ⟨C', c', e'⟩ := h'.1
  have := h.2 C' c'
  have := h'.2 C c
  omega
theorem zsX (hl : OkL l) (hn : f.Nodup) {ms : Ms} {T : zah → Prop} (h : Final f l ms T) : Mn f l (ml f l ms).length := by
  obtain ⟨C, c, e⟩ := zvy hl hn h
  have d := zyn hl hn h.toMatch c
  exact ⟨⟨C, c, by omega⟩, fun C' c' => zyn hl hn h.toMatch c'⟩
theorem zrs (hl : OkL l) (hn : f.Nodup) {k : Nat} (h : Mn f l k) (x : Int) : (f.filter fun c => decide (hue l c = x)).length + k ≤ f.length := by
  have c : IsCover f l (f.filter fun c => !decide (hue l c = x)) := by
    refine ⟨hn.sublist List.filter_sublist, fun y hy => (List.mem_filter.mp hy).1, fun a ha b hb hab => ?_⟩
    have hne := zb9 hl hab
    by_cases z : hue l a = x
    · right
      refine List.mem_filter.mpr ⟨hb, ?_⟩
      have : ¬ hue l b = x := fun w => hne (by rw [z, w])
      simp [this]
    · left; exact List.mem_filter.mpr ⟨ha, by simp [z]⟩
  have h1 := h.2 _ c
  have h2 := zdm (f := f) (p := fun c => decide (hue l c = x))
  omega
theorem zoP {C : List zah} (h : IsCover f l C) {g : List zah} (hg : ∀ x ∈ g, x ∈ f) : IsCover g l (C.filter fun x => decide (x ∈ g)) :=
  ⟨h.nd.sublist List.filter_sublist, fun x hx => by simpa using (List.mem_filter.mp hx).2, fun a ha b hb hab =>
    (h.hit a (hg a ha) b (hg b hb) hab).imp (fun z => List.mem_filter.mpr ⟨z, by simpa using ha⟩) fun z => List.mem_filter.mpr ⟨z, by simpa using hb⟩⟩
theorem zqs {P : List (List zah)} (hd : P.flatten.Nodup) (hs : ∀ x, x ∈ P.flatten ↔ x ∈ f) (hn : ∀ p ∈ P, ∀ a ∈ p, ∀ b ∈ f, zeQ l a b = true → b ∈ p) {k : List zah → Nat} (hk : ∀ p ∈ P, Mn p l (k p)) {K : Nat} (h : Mn f l K) : (P.map k).sum = K := by
  obtain ⟨hd1, hd2⟩ := List.pairwise_flatten.mp hd
  have inP : ∀ p ∈ P, ∀ x ∈ p, x ∈ f := fun p hp x hx => (hs x).mp (List.mem_flatten.mpr ⟨p, hp, hx⟩)
  apply Nat.le_antisymm
  · obtain ⟨C, c, e⟩ := h.1
    have step : (P.map k).sum ≤ (P.map fun p => (C.filter fun x => decide (x ∈ p)).length).sum := zrr fun p hp => (hk p hp).2 _ (zoP c (inP p hp))
    have nd : (P.flatMap fun p => C.filter fun x => decide (x ∈ p)).Nodup := by
      refine List.pairwise_flatMap.mpr ⟨fun p _ => c.nd.sublist List.filter_sublist, hd2.imp fun {p q} z x hx y hy => ?_⟩
      exact z x (by simpa using (List.mem_filter.mp hx).2) y (by simpa using (List.mem_filter.mp hy).2)
    have := zbE nd (m := C) fun x hx => by
      obtain ⟨p, _, hx⟩ := List.mem_flatMap.mp hx
      exact (List.mem_filter.mp hx).1
    rw [List.length_flatMap] at this
    omega
  · have ch : ∀ p, ∃ C : List zah, p ∈ P → IsCover p l C ∧ C.length = k p := fun p => by
      by_cases hp : p ∈ P
      · obtain ⟨C, c⟩ := (hk p hp).1
        exact ⟨C, fun _ => c⟩
      · exact ⟨[], fun z => absurd z hp⟩
    obtain ⟨Cc, hC⟩ := Classical.axiomOfChoice ch
    have c : IsCover f l (P.flatMap Cc) := by
      refine ⟨List.pairwise_flatMap.mpr ⟨fun p hp => (hC p hp).1.nd, ?_⟩, fun x hx => ?_, fun a ha b hb hab => ?_⟩
      · refine List.Pairwise.imp_of_mem (fun {p q} hp hq z x hx y hy => ?_) hd2
        exact z x ((hC p hp).1.sub x hx) y ((hC q hq).1.sub y hy)
      · obtain ⟨p, hp, hx⟩ := List.mem_flatMap.mp hx
        exact inP p hp x ((hC p hp).1.sub x hx)
      · obtain ⟨p, hp, hap⟩ := List.mem_flatten.mp ((hs a).mpr ha)
        exact ((hC p hp).1.hit a hap b (hn p hp a hap b hb hab) hab).imp (fun z => List.mem_flatMap.mpr ⟨p, hp, z⟩) fun z => List.mem_flatMap.mpr ⟨p, hp, z⟩
    have := h.2 _ c
    rw [List.length_flatMap, List.map_congr_left fun p hp => (hC p hp).2] at this
    exact this
theorem zsY {a b : List zah} {x : zah} (hn : (a ++ x :: b).Nodup) {k k' : Nat} (h : Mn (a ++ x :: b) l k) (h' : Mn (a ++ b) l k') : k' ≤ k ∧ k ≤ k' + 1 := by
  have sub : ∀ y ∈ a ++ b, y ∈ a ++ x :: b := fun y hy => by
    rw [List.mem_append] at hy ⊢
    exact hy.imp id (List.mem_cons_of_mem _)
  constructor
  · obtain ⟨C, c, e⟩ := h.1
    have := h'.2 _ (zoP c sub)
    have := List.length_filter_le (fun y => decide (y ∈ a ++ b)) C
    omega
  · obtain ⟨C, c, e⟩ := h'.1
    have hx : x ∉ a ++ b := fun z => by
      rw [List.nodup_append] at hn
      rcases List.mem_append.mp z with z | z
      · exact hn.2.2 x z x List.mem_cons_self rfl
      · exact (List.nodup_cons.mp hn.2.1).1 z
    have c2 : IsCover (a ++ x :: b) l (x :: C) := by
      refine ⟨List.nodup_cons.mpr ⟨fun z => hx (c.sub x z), c.nd⟩, fun y hy => ?_, fun p hp q hq hpq => ?_⟩
      · rcases List.mem_cons.mp hy with rfl | hy
        · simp
        · exact sub y (c.sub y hy)
      · by_cases e1 : p = x
        · left; rw [e1]; exact List.mem_cons_self
        by_cases e2 : q = x
        · right; rw [e2]; exact List.mem_cons_self
        have m : ∀ y, y ∈ a ++ x :: b → y ≠ x → y ∈ a ++ b := fun y hy z => by
          rw [List.mem_append] at hy ⊢
          rcases hy with hy | hy
          · exact .inl hy
          · exact .inr ((List.mem_cons.mp hy).resolve_left z)
        exact (c.hit p (m p hp e1) q (m q hq e2) hpq).imp (List.mem_cons_of_mem _) (List.mem_cons_of_mem _)
    have := h.2 _ c2
    rw [List.length_cons] at this
    omega
theorem zoQ {C g : List zah} (h : IsCover f l C) (hg : ∀ x, x ∈ g ↔ swp x ∈ f) : IsCover g l (C.map swp) := by
  refine ⟨zb2 (fun x _ y _ e => by rw [← zcu x, e, zcu]) h.nd, fun x hx => ?_, fun a ha b hb hab => ?_⟩
  · obtain ⟨y, hy, rfl⟩ := List.mem_map.mp hx
    exact (hg _).mpr (by rw [zcu]; exact h.sub y hy)
  · exact (h.hit (swp a) ((hg a).mp ha) (swp b) ((hg b).mp hb) (zqr a b hab)).imp (fun z => List.mem_map.mpr ⟨_, z, zcu a⟩) fun z => List.mem_map.mpr ⟨_, z, zcu b⟩
theorem zvA {g : List zah} {k : Nat} (h : Mn f l k) (hg : ∀ x, x ∈ g ↔ swp x ∈ f) : Mn g l k := by
  obtain ⟨C, c, e⟩ := h.1
  refine ⟨⟨_, zoQ c hg, by rw [List.length_map, e]⟩, fun C' c' => ?_⟩
  have := h.2 _ (zoQ (g := f) c' fun x => by rw [hg, zcu])
  rwa [List.length_map] at this
theorem zmL (hl : OkL l) (hn : f.Nodup) {ms : Ms} (h : Match f l ms) : (f.filter fun c => (get ms c).isNone).length + 2 * (ml f l ms).length = f.length := by
  have e1 := zdm (p := fun c => (get ms c).isNone) (f := f)
  have e2 := zdm (p := fun c => decide (hue l c = 0)) (f := f.filter fun c => !(get ms c).isNone)
  have hA : (f.filter fun c => !(get ms c).isNone).filter (fun c => decide (hue l c = 0)) = ml f l ms := by
    unfold ml
    rw [List.filter_filter]
    apply List.filter_congr
    intro c _
    cases get ms c <;> simp
  rw [hA] at e2
  generalize hB : ((f.filter fun c => !(get ms c).isNone).filter fun c => !decide (hue l c = 0)) = B at e2
  have memB : ∀ c, c ∈ B ↔ c ∈ f ∧ (∃ v, get ms c = some v) ∧ hue l c ≠ 0 := fun c => by
    rw [← hB, List.mem_filter, List.mem_filter]
    cases hg : get ms c <;> simp
  have nB : B.Nodup := by rw [← hB]; exact (hn.sublist List.filter_sublist).sublist List.filter_sublist
  have le1 : (ml f l ms).length ≤ B.length := zcj (ze8 ms) (zhX hn) (fun x hx => by
    obtain ⟨h1, h2, v, h3⟩ := zb6.mp hx
    rw [zaO h3, memB]
    have := h.inF _ _ h3
    have fl := (zaX hl this.2.2).1 h2
    exact ⟨this.2.1, ⟨x, h.sym _ _ h3⟩, by omega⟩) fun x hx y hy e => by
    obtain ⟨_, _, v, h3⟩ := zb6.mp hx
    obtain ⟨_, _, w, h4⟩ := zb6.mp hy
    rw [zaO h3, zaO h4] at e
    subst e
    exact h.inj h3 h4
  have le2 : B.length ≤ (ml f l ms).length := zcj (ze8 ms) nB (fun x hx => by
    obtain ⟨h1, ⟨v, h3⟩, h2⟩ := (memB x).mp hx
    rw [zaO h3, zb6]
    have := h.inF _ _ h3
    have fl := (zaX hl this.2.2).2 ((zcq (l := l) x).resolve_left h2)
    exact ⟨this.2.1, fl, x, h.sym _ _ h3⟩) fun x hx y hy e => by
    obtain ⟨_, ⟨v, h3⟩, _⟩ := (memB x).mp hx
    obtain ⟨_, ⟨w, h4⟩, _⟩ := (memB y).mp hy
    rw [zaO h3, zaO h4] at e
    subst e
    exact h.inj h3 h4
  omega
end
end LK
namespace LK
open L2.LW
theorem zhj {α : Type} {g : α → D} (h : ∀ x, plain (g x) = true) : ∀ {L : List α}, zbA (L.map g) = true
  | [] => by simp
  | a :: r => by simp [h a, zhj h (L := r)]
section
variable {f : List zah} {l : zah}
theorem zlR (n : Nat) (hl : OkL l) (hf : OkF f) : ∃ L k, Mn f l k ∧ za1 U zat (n + 30) 43 [fD f, cD l] = some (.obj true (.lst L)) ∧ L.length = k := by
  obtain ⟨ms, T, h1, h2⟩ := zhY n hl hf
  have hn := zca hf
  exact ⟨_, _, zsX hl hn h1, h2, by rw [List.length_map, zsP hl hn h1.toMatch]⟩
theorem zkN (n : Nat) (hl : OkL l) (hf : OkF f) : ∃ ms T cr ar, Final f l ms T ∧ Crowd f l ms T 0 cr ar ∧ za1 U zat (n + 31) 45 [fD f, cD l] = some (.obj true (lD (zoM f l cr ar))) := by
  obtain ⟨ms, T, cr, ar, h1, h2, h3⟩ := zeS n hl hf
  refine ⟨ms, T, cr, ar, h1, h2, ?_⟩
  rw [zaw U45 rfl]
  simp [zvn, h3 false]
  congr 1
theorem zoR (n : Nat) (hl : OkL l) (hf : OkF f) : ∃ P k, Mn f l k ∧ za1 U zat (n + 31) 45 [fD f, cD l] = some (.obj true (lD P)) ∧ P.length + k = f.length := by
  obtain ⟨ms, T, cr, ar, h1, h2, h4⟩ := zkN n hl hf
  have hn := zca hf
  obtain ⟨_, e⟩ := zqo hl hn h1 h2
  have s := zdm (p := inC l cr ar) (f := f)
  refine ⟨_, _, zsX hl hn h1, h4, ?_⟩
  unfold zdl at e
  unfold zoM
  omega
theorem zkO (hn : f.Nodup) {ms : Ms} {T : zah → Prop} (hm : Match f l ms) (hT : zc7 f l ms T) {k : Int} {cr ar : List zah} (h : Crowd f l ms T k cr ar) : cr.Nodup := by
  have mt : ∀ y ∈ ar, ∃ x, get ms y = some x := fun y hy => by
    obtain ⟨x, e, _⟩ := hT y (h.sub y hy).2
    exact ⟨x, e⟩
  rw [h.is, List.nodup_append]
  refine ⟨hn.sublist List.filter_sublist, zb2 (fun a ha b hb e => ?_) h.nd, fun a ha b hb e => ?_⟩
  · obtain ⟨x, ex⟩ := mt a ha
    obtain ⟨y, ey⟩ := mt b hb
    rw [zaO ex, zaO ey] at e
    subst e
    exact hm.inj ex ey
  · obtain ⟨y, hy, rfl⟩ := List.mem_map.mp hb
    obtain ⟨x, ex⟩ := mt y hy
    rw [zaO ex] at e
    subst e
    have := (List.mem_filter.mp ha).2
    rw [hm.sym _ _ ex] at this
    simp at this
theorem zoS {ms : Ms} {T : zah → Prop} (hm : Match f l ms) (hT : zc7 f l ms T) {k : Int} {cr ar : List zah} (h : Crowd f l ms T k cr ar) : ∀ x ∈ cr, x ∈ f := fun x hx => by
  rw [h.is, List.mem_append] at hx
  rcases hx with hx | hx
  · exact (List.mem_filter.mp hx).1
  · obtain ⟨y, hy, rfl⟩ := List.mem_map.mp hx
    obtain ⟨x, e, _⟩ := hT y (h.sub y hy).2
    rw [zaO e]
    exact (hm.inF _ _ e).2.1
theorem zoT (n : Nat) (hl : OkL l) (hf : OkF f) : ∃ k, Mn f l k ∧ ∃ L, za1 U zat (n + 30) 47 [fD f, cD l] = some (.val (.tup [.str (PySem.Str.ofString (if 2 * k = f.length then "paired" else "crowd")), .lst L])) := by
  have hl' := zbg
  have hlen := hf.len
  have hn := zca hf
  obtain ⟨ms, T, h1, h2⟩ := zdk n hl hf
  have hk := zsX hl hn h1
  have al := zmL hl hn h1.toMatch
  refine ⟨_, hk, ?_⟩
  have ck := zcF (n + 25) hf
  have cl' := zbo (n + 26) hl
  generalize hA : (f.filter fun c => (get ms c).isNone) = A at al
  have comp : evE (za1 U zat (n + 29)) (.comp false (.cons (.var 0) .nil) (.prim .nin (.cons (.var 0) (.cons (.var 3) .nil))) (.var 0)) [some (.val (fD f)), some (.val (cD l)), some (.obj true (dD ms)), none, none] = some (.obj true (lD A)) := by
    rw [zb1 (rs := [.val (fD f)]) (xs := f) (f := cD) (fun c => (get ms c).isNone) cD]
    · rw [hA]; rfl
    · simp
    · rfl
    · omega
    · intro x _
      simp [zvr]
    · intro x _ _; simp
  rw [zaw U47 rfl]
  simp only [zvo]
  cases A with
  | nil =>
    have e0 : zal .len [lD []] = some (.val (.int 0)) := rfl
    have po := zf3 (n + 28) (f := f) (by omega) (ms := ms)
    rw [if_pos (by simpa using al)]
    refine ⟨(prs f ms).map (zjv ms), ?_⟩
    have pl : (SV.obj true (.lst ((prs f ms).map (zjv ms)))).plain = true := zhj fun c => by simp [zjv]
    generalize (prs f ms).map (zjv ms) = L at *
    simp [ck, cl', h2, comp, e0, po, zkE pl]
  | cons a r =>
    have ha := List.mem_filter.mp (show a ∈ f.filter fun c => (get ms c).isNone by rw [hA]; exact List.mem_cons_self)
    have hg : get ms a = none := by simpa using ha.2
    rw [if_neg (by simp at al; omega)]
    have hh := zf1 (n + 26) hl a
    have ix : zal .idx [lD (a :: r), .int 0] = some (.val (cD a)) := by
      rw [lD, zoy, show (0 : Int) = ((0 : Nat) : Int) from rfl, atI_nat (by simp)]; rfl
    obtain ⟨m, ln, nz⟩ : ∃ m : Int, zal .len [lD (a :: r)] = some (.val (.int m)) ∧ ¬ m = 0 := ⟨_, zlP, by rw [List.length_cons]; omega⟩
    have cw : ∃ T', zc7 f l ms T' ∧ ∀ x ∈ f, hue l x = hue l a → get ms x = none → ∀ o ∈ nb f l x, T' o := by
      rcases zcq (l := l) a with z | z
      · rw [z]; exact ⟨T, h1.cl, h1.free⟩
      · rw [z]
        obtain ⟨T', c, d, _⟩ := zmI hl h1
        exact ⟨T', c, d⟩
    obtain ⟨T', c1, c2⟩ := cw
    obtain ⟨cr, ar, w, e40⟩ := zlO (n + 24) hl hf h1.toMatch c1 (k := hue l a) c2
    have ncr := zkO hn h1.toMatch c1 w
    have scr := zoS h1.toMatch c1 w
    have lcr : cr.length < 64 := by have := zbE ncr scr; omega
    have ne : cr ≠ [] := fun z => by
      have : a ∈ cr := by
        rw [w.is, List.mem_append]
        exact .inl (List.mem_filter.mpr ⟨ha.1, by simp [hg]⟩)
      rw [z] at this; cases this
    obtain ⟨g, g1, g2⟩ := zf6 cr ncr
    have so : zal .sorted [lD cr] = some (.obj true (lD g)) := zeg ne ncr lcr g1 g2
    have i0 : zal .idx [.tup [lD cr, lD ar], .int 0] = some (.val (lD cr)) := rfl
    refine ⟨g.map cD, ?_⟩
    generalize hue l a = hu at *
    simp [ck, cl', h2, comp, ln, nz, ix, hh, e40, i0, so]
    rfl
end
end LK
namespace LK
open L2.LW
section
variable {f : List zah} {l : zah}
open Classical in
noncomputable def zdn (f : List zah) (l : zah) : Nat := if h : ∃ k, Mn f l k then Classical.choose h else 0
theorem zf7 {k : Nat} (h : Mn f l k) : zdn f l = k := by
  have e : ∃ k, Mn f l k := ⟨k, h⟩
  unfold zdn
  rw [dif_pos e]
  exact (Classical.choose_spec e).uniq h
theorem zfC (n : Nat) (hl : OkL l) (hf : OkF f) : ∃ L, za1 U zat (n + 30) 43 [fD f, cD l] = some (.obj true (.lst L)) ∧ L.length = zdn f l := by
  obtain ⟨L, k, h1, h2, h3⟩ := zlR n hl hf
  exact ⟨L, h2, by rw [zf7 h1, h3]⟩
theorem zkP (hl : OkL l) (hf : OkF f) : Mn f l (zdn f l) := by
  obtain ⟨L, k, h1, _, _⟩ := zlR 0 hl hf
  rw [zf7 h1]; exact h1
theorem zjA (n : Nat) (hl : OkL l) (hf : OkF f) : ∃ P : List zah, za1 U zat (n + 31) 45 [fD f, cD l] = some (.obj true (lD P)) ∧ P.length + zdn f l = f.length := by
  obtain ⟨P, k, h1, h2, h3⟩ := zoR n hl hf
  exact ⟨P, h2, by rw [zf7 h1, h3]⟩
theorem zmM (n : Nat) (hl : OkL l) (hf : OkF f) : ∃ L, za1 U zat (n + 30) 47 [fD f, cD l] = some (.val (.tup [.str (PySem.Str.ofString (if 2 * zdn f l = f.length then "paired" else "crowd")), .lst L])) := by
  obtain ⟨k, h1, L, h2⟩ := zoT n hl hf
  exact ⟨L, by rw [zf7 h1, h2]⟩
theorem zhk (hf : OkF f) {p : List zah} (hp : p ∈ zfo f l) : OkF p := by
  obtain ⟨c, hc, rfl⟩ := zcH (g := f) (acc := []) (fun x hx => hx) (fun p hp => by cases hp) p hp
  have sub : ∀ x ∈ zhh f l c, x ∈ f := fun x hx => (zbZ.mp hx).1
  have sp := zjy (l := l) hc
  exact ⟨fun z => (List.not_mem_nil (z ▸ sp)).elim, Nat.le_trans (List.length_filter_le _ _) hf.len, fun x hx => hf.cells x (sub x hx), zjz hf.rise⟩
theorem zhZ (hn : f.Nodup) : ∀ {g : List zah} {acc : List (List zah)}, (∀ x ∈ g, x ∈ f) → (∀ p ∈ acc, ∃ c ∈ f, p = zhh f l c) → acc.flatten.Nodup → (zaU f l g acc).flatten.Nodup
  | [], acc, _, _, h => h
  | c :: r, acc, hg, hp, h => by
    rw [zaU]
    have hr : ∀ x ∈ r, x ∈ f := fun x hx => hg x (List.mem_cons_of_mem _ hx)
    split
    · exact zhZ hn hr hp h
    · rename_i hc
      refine zhZ hn hr (fun p z => ?_) ?_
      · rw [List.mem_append, List.mem_singleton] at z
        rcases z with z | rfl
        · exact hp p z
        · exact ⟨c, hg c List.mem_cons_self, rfl⟩
      · rw [List.flatten_append, List.nodup_append]
        refine ⟨h, by rw [List.flatten_cons, List.flatten_nil, List.append_nil]; unfold zhh; exact hn.sublist List.filter_sublist, fun a ha b hb e => hc ?_⟩
        subst e
        have hb : a ∈ zhh f l c := by simpa using hb
        obtain ⟨p, h1, h2⟩ := List.mem_flatten.mp ha
        obtain ⟨d, hd, rfl⟩ := hp p h1
        obtain ⟨haf, k, hk⟩ := zbZ.mp hb
        obtain ⟨_, j, hj⟩ := zbZ.mp h2
        have hcf := hg c List.mem_cons_self
        have := Bk.join hj (Bk.symm hcf haf hk)
        exact List.mem_flatten.mpr ⟨_, h1, zbZ.mpr ⟨hcf, _, this⟩⟩
theorem zoU (hl : OkL l) (hf : OkF f) : ((zfo f l).map fun p => zdn p l).sum = zdn f l := by
  have hn := zca hf
  refine zqs (zhZ hn (fun x hx => hx) (fun p hp => by cases hp) (by simp)) (fun x => ⟨fun h => ?_, fun h => zd0 (fun x hx => hx) x h⟩) (fun p hp a ha b hb hab => ?_) (fun p hp => zkP hl (zhk hf hp)) (zkP hl hf)
  · obtain ⟨p, h1, h2⟩ := List.mem_flatten.mp h
    obtain ⟨c, hc, rfl⟩ := zcH (g := f) (acc := []) (fun x hx => hx) (fun p hp => by cases hp) p h1
    exact (zbZ.mp h2).1
  · obtain ⟨c, hc, rfl⟩ := zcH (g := f) (acc := []) (fun x hx => hx) (fun p hp => by cases hp) p hp
    obtain ⟨haf, k, hk⟩ := zbZ.mp ha
    exact zbZ.mpr ⟨hb, k + 1, .inr ⟨hb, a, hk, by rw [zbt]; exact hab⟩⟩
theorem zhl (hf : OkF f) {k : Nat} (hk : k < f.length) (h1 : 1 < f.length) : OkF (f.take k ++ f.drop (k + 1)) := by
  have sub : (f.take k ++ f.drop (k + 1)).Sublist f := by
    have := (List.Sublist.refl (f.take k)).append (List.drop_sublist_drop_left f (Nat.le_succ k))
    rwa [List.take_append_drop] at this
  refine ⟨fun z => ?_, Nat.le_trans sub.length_le hf.len, fun c hc => hf.cells c (sub.subset hc), hf.rise.sublist sub⟩
  have e : (f.take k ++ f.drop (k + 1)).length = f.length - 1 := by rw [List.length_append, List.length_take, List.length_drop]; omega
  rw [z] at e
  have e : 0 = f.length - 1 := e
  omega
theorem zqt (hl : OkL l) (hf : OkF f) {k : Nat} (hk : k < f.length) (h1 : 1 < f.length) : zdn (f.take k ++ f.drop (k + 1)) l ≤ zdn f l ∧ zdn f l ≤ zdn (f.take k ++ f.drop (k + 1)) l + 1 := by
  have e : f = f.take k ++ f[k] :: f.drop (k + 1) := by
    rw [← List.drop_eq_getElem_cons hk, List.take_append_drop]
  have hm := zkP hl hf
  have hn := zca hf
  have hm' := zkP hl (zhl hf hk h1)
  generalize zdn f l = a at *
  rw [e] at hm hn
  exact zsY hn hm hm'
theorem zjB (hf : OkF f) : ∃ g, OkF g ∧ (∀ x, x ∈ g ↔ swp x ∈ f) ∧ g.length = f.length ∧ zal .sorted [.lst (f.map fun c => cD (swp c))] = some (.obj true (lD g)) := by
  have hn : (f.map swp).Nodup := zb2 (fun x _ y _ e => by rw [← zcu x, e, zcu]) (zca hf)
  obtain ⟨g, g1, g2⟩ := zf6 (f.map swp) hn
  have mem : ∀ x, x ∈ g ↔ swp x ∈ f := fun x => by
    rw [← g2, List.mem_map]
    exact ⟨fun ⟨y, hy, e⟩ => by rw [← e, zcu]; exact hy, fun h => ⟨_, h, zcu x⟩⟩
  have ne : f.map swp ≠ [] := fun z => hf.ne (List.map_eq_nil_iff.mp z)
  have hlen := hf.len
  have len : g.length = f.length := by
    have a := zbE hn (m := g) fun x hx => (g2 x).mp hx
    have b := zbE (OkF.nodup g1) (m := f.map swp) fun x hx => (g2 x).mpr hx
    rw [List.length_map] at a b
    omega
  have so := zeg ne hn (by rw [List.length_map]; omega) g1 g2
  rw [List.map_map] at so
  refine ⟨g, ⟨fun z => ?_, by omega, fun c hc => ?_, g1⟩, mem, len, so⟩
  · rw [z] at len
    exact hf.ne (List.eq_nil_of_length_eq_zero len.symm)
  · have := hf.cells _ ((mem c).mp hc)
    unfold okC swp at this
    unfold okC
    simp only at this
    omega
end
end LK
namespace LK
open L2.LW
theorem zmN {f : List zah} {l : zah} : (zfo f l).length ≤ f.length := by
  have key : ∀ (g : List zah) (acc : List (List zah)), (zaU f l g acc).length ≤ acc.length + g.length := by
    intro g
    induction g with
    | nil => intro acc; simp [zaU]
    | cons c r ih =>
      intro acc
      rw [zaU]
      split
      · have := ih acc; simp; omega
      · have := ih (acc ++ [zhh f l c]); simp at this ⊢; omega
  have := key f []
  simpa [zfo] using this
theorem zkQ {L : List D} : zal .len [.lst L] = some (.val (.int L.length)) := rfl
theorem zlS : ∀ L : List Nat, (L.map fun (k : Nat) => (k : Int)).sum = ((L.sum : Nat) : Int)
  | [] => rfl
  | a :: r => by rw [List.map_cons, List.sum_cons, List.sum_cons, zlS r]; omega
theorem zoV {a b : Nat} : zal .maxL [.lst [.int (a : Int), .int (b : Int)]] = some (.val (.int (max (a : Int) b))) := by
  have := zro (n := (a : Int)) (r := [(b : Int)])
  simpa using this
theorem zzG : (PySem.Str.ofString "paired" = PySem.Str.ofString "paired") ∧ ¬ PySem.Str.ofString "crowd" = PySem.Str.ofString "paired" := by decide +kernel
theorem zsZ {a b : PySem.Str} : zal .eqS [.str a, .str b] = some (.val (.bl (decide (a = b)))) := rfl
section
variable {f : List zah} {l : zah}
theorem zjC (n : Nat) (hf : OkF f) (hl : OkL l) {s0 : Option SV} {ρ : Env} :
    evE (za1 U zat (n + 5)) (.comp false (.cons (.call 25 (.cons (.var 1) (.cons (.var 2) .nil))) .nil) (.bl true) (.prim .len (.cons (.var 0) .nil))) (s0 :: some (.val (fD f)) :: some (.val (cD l)) :: ρ) = some (.obj true (.lst [.int ((zeT f l 0).length : Int), .int ((zeT f l 1).length : Int)])) := by
  have hh := zmK n hf hl
  have hl' := zbg
  rw [zcD (rs := [.obj true (.lst [lD (zeT f l 0), lD (zeT f l 1)])]) (xs := [zeT f l 0, zeT f l 1]) (f := lD) (fun g => .int (g.length : Int))]
  · rfl
  · simp [hh]
  · rfl
  · simp; omega
  · intro g _
    simp [zlP]
theorem zhm (n : Nat) (hf : OkF f) (hl : OkL l) {s0 : Option SV} {ρ : Env} :
    evE (za1 U zat (n + 30)) (.comp false (.cons (.call 31 (.cons (.var 1) (.cons (.var 2) .nil))) .nil) (.bl true) (.prim .len (.cons (.call 43 (.cons (.prim .toTup (.cons (.var 0) .nil)) (.cons (.var 3) .nil))) .nil))) (s0 :: some (.val (fD f)) :: some (.val (cD l)) :: ρ) = some (.obj true (.lst ((zfo f l).map fun p => .int (zdn p l : Int)))) := by
  have hh := zkM (n + 24) hf hl
  have hl' := zbg
  have hlen := hf.len
  rw [zcD (rs := [.obj true (llD (zfo f l))]) (xs := zfo f l) (f := lD) (fun p => .int (zdn p l : Int))]
  · simp [hh]
  · rfl
  · have := zmN (f := f) (l := l)
    omega
  · intro p hp
    obtain ⟨L, e, el⟩ := zfC n hl (zhk hf hp)
    have tt : zal .toTup [lD p] = some (.val (fD p)) := rfl
    simp [tt, e, zkQ, el]
end
end LK
namespace LK
open L2.LW
section
variable {f : List zah} {l : zah}
theorem zqu {k : Nat} (hk : k < f.length) (h1 : 1 < f.length) (hl : f.length ≤ 24) : zal .cutT [fD f, .int (k : Int)] = some (.val (fD (f.take k))) ∧ zal .cutF [fD f, .int ((k : Int) + 1)] = some (.val (fD (f.drop (k + 1)))) ∧ zal .addT [fD (f.take k), fD (f.drop (k + 1))] = some (.val (fD (f.take k ++ f.drop (k + 1)))) := by
  refine ⟨?_, ?_, ?_⟩
  · show znz [.tup (f.map cD), .int (k : Int)] = _
    unfold znz
    simp only
    rw [if_pos (by rw [List.length_map]; omega), ← List.map_take]
    rfl
  · show znA [.tup (f.map cD), .int ((k : Int) + 1)] = _
    unfold znA
    simp only
    rw [if_pos (by rw [List.length_map]; omega), ← List.map_drop]
    rfl
  · show znB [.tup ((f.take k).map cD), .tup ((f.drop (k + 1)).map cD)] = _
    unfold znB
    simp only
    rw [if_pos (by rw [List.length_map, List.length_map, List.length_take, List.length_drop]; omega), ← List.map_append]
    rfl
theorem zjD (n : Nat) (hf : OkF f) {s0 : Option SV} {ρ : Env} :
    evE (za1 U zat n) (.comp false (.cons (.var 1) .nil) (.bl true) (.tup (.cons (.prim .idx (.cons (.var 0) (.cons (.int 1) .nil))) (.cons (.prim .idx (.cons (.var 0) (.cons (.int 0) .nil))) .nil)))) (s0 :: some (.val (fD f)) :: ρ) = some (.obj true (.lst (f.map fun c => cD (swp c)))) := by
  have hl' := zbg
  have hlen := hf.len
  rw [zcD (rs := [.val (fD f)]) (xs := f) (f := cD) (fun c => cD (swp c))]
  · simp
  · rfl
  · omega
  · intro c _
    have i0 : zal .idx [cD c, .int 0] = some (.val (.int c.1)) := rfl
    have i1 : zal .idx [cD c, .int 1] = some (.val (.int c.2)) := rfl
    simp [i0, i1]
    rfl
end
theorem zs0 (n : Nat) (ns : List Int) : za1 U zat (n + 32) 52 [sD ns] = some (.val (.bl true)) := by
  have hl' := zbg
  obtain ⟨f, hf, _, e1⟩ := zjq (n + 29) ns (at_ := 2) (most := 24) (by decide) (by decide) (by decide)
  obtain ⟨l, hl, e2⟩ := zkJ (n + 30) (ze6 ns 0)
  have hlen := hf.len
  have c0 := zbU (n + 30) ns (k := 0) (by decide)
  have c1 := zbU (n + 30) ns (k := 1) (by decide)
  obtain ⟨L, em, el⟩ := zfC (n + 1) hl hf
  obtain ⟨P, ep, epl⟩ := zjA n hl hf
  obtain ⟨g, hg, gm, gl, gs⟩ := zjB hf
  obtain ⟨L2, et, etl⟩ := zfC (n + 1) hl hg
  obtain ⟨L3, epd⟩ := zmM (n + 1) hl hg
  have mg : zdn g l = zdn f l := zf7 (zvA (zkP hl hf) gm)
  rw [mg, gl] at epd
  rw [mg] at etl
  have hs0 := zrs hl (zca hf) (zkP hl hf) 0
  have hs1 := zrs hl (zca hf) (zkP hl hf) 1
  have ps : zal .sumL [.lst ((zfo f l).map fun p => .int (zdn p l : Int))] = some (.val (.int (zdn f l : Int))) := by
    have := zu2 (r := ((zfo f l).map fun p => zdn p l).map fun (k : Nat) => (k : Int))
    rw [zlS, zoU hl hf, List.map_map, List.map_map] at this
    exact this
  have tt : zal .toTup [lD g] = some (.val (fD g)) := rfl
  have hm2 : ¬ (max ((zeT f l 0).length : Int) ((zeT f l 1).length : Int) > (P.length : Int)) := by
    unfold zeT; omega
  have pid : zal .idx [.tup [.str (PySem.Str.ofString (if 2 * zdn f l = f.length then "paired" else "crowd")), .lst L3], .int 0] = some (.val (.str (PySem.Str.ofString (if 2 * zdn f l = f.length then "paired" else "crowd")))) := rfl
  have pe : zal .eqS [.str (PySem.Str.ofString (if 2 * zdn f l = f.length then "paired" else "crowd")), .str (PySem.Str.ofString "paired")] = some (.val (.bl (decide (2 * zdn f l = f.length)))) := by
    rw [zsZ]
    by_cases z : 2 * zdn f l = f.length
    · simp [z]
    · simp [z, zzG.2]
  have q1 : ((zdn f l : Nat) : Int) + (P.length : Int) = (f.length : Int) := by omega
  have q2 : ¬ ((P.length : Int) < max ((zeT f l 0).length : Int) ((zeT f l 1).length : Int)) := hm2
  have hlp : (0 : Int) < f.length := by have := List.length_pos_iff.mpr hf.ne; omega
  have te : (decide (2 * zdn f l = f.length) == (2 * ((zdn f l : Nat) : Int) == (f.length : Int))) = true := by
    rw [beq_iff_eq, Bool.eq_iff_iff, decide_eq_true_iff, beq_iff_eq]; omega
  have pm : zal .mul [.int 2, .int ((zdn f l : Nat) : Int)] = some (.val (.int (2 * ((zdn f l : Nat) : Int)))) := by
    first
      | rfl
      | exact p_mul (by unfold inR; omega)
      | (show ztk _ = _; unfold ztk; simp; omega)
  generalize hK : PySem.Str.ofString (if 2 * zdn f l = f.length then "paired" else "crowd") = kind at *
  rw [zaw U52 rfl]
  simp only [zvp]
  by_cases h1 : 1 < f.length
  · obtain ⟨k, hk, e3⟩ := zzE hf.ne (ze6 ns 1)
    have hf' := zhl hf hk h1
    obtain ⟨L5, em5, el5⟩ := zfC (n + 1) hl hf'
    obtain ⟨P5, ep5, epl5⟩ := zjA n hl hf'
    obtain ⟨cu1, cu2, cu3⟩ := zqu hk h1 hlen
    have ln := zqt hl hf hk h1
    have ll : (f.take k ++ f.drop (k + 1)).length = f.length - 1 := by rw [List.length_append, List.length_take, List.length_drop]; omega
    have g1 : ((f.length : Nat) : Int) > 1 := by omega
    generalize f.take k ++ f.drop (k + 1) = h at *
    generalize f.take k = u at *
    generalize f.drop (k + 1) = v at *
    have r1 : zdn h l ≤ zdn f l := by omega
    have r2 : (zdn f l : Int) - (zdn h l : Int) ≤ 1 := by omega
    have r3 : P5.length ≤ P.length := by omega
    have r4 : (P.length : Int) - (P5.length : Int) ≤ 1 := by omega
    simp [e1, c0, c1, e2, em, zkQ, el, ep, zlP, zsI, zjC (n + 26) hf hl, zoV, q1, q2, zhm (n + 1) hf hl, ps, g1, zhT hlp, e3, cu1, cu2, cu3, em5, el5, ep5, r1, r2, r3, r4, zjD (n + 31) hf, gs, tt, et, etl, epd, pid, pe, zsT, pm]
    simpa using te
  · have g1 : ¬ (((f.length : Nat) : Int) > 1) := by omega
    simp [e1, c0, c1, e2, em, zkQ, el, ep, zlP, zsI, zjC (n + 26) hf hl, zoV, q1, q2, zhm (n + 1) hf hl, ps, g1, zjD (n + 31) hf, gs, tt, et, etl, epd, pid, pe, zsT, pm]
    simpa using te
theorem zjE (ns : List Int) (_ : ns.length ≤ 63) : za1 U zat depth 52 [.lst (ns.map D.int)] = some (.val (.bl true)) := zs0 8 ns
end LK
set_option maxHeartbeats 4000000
namespace LK
open PySem PySem.Spec PyProof.Rows L2 L2.LW
noncomputable def top (i : Nat) : Stmt := PySem.Challenge.pw_leaperwalk_k15_whole_pairs_and_peace.main.body.getD i (.Pass ⟨0, 0, 0, 0⟩)
noncomputable def zaL : Nat → List Str
  | 0 => ["thing", "least", "most"]
  | 1 => ["thing"]
  | 2 => ["thing"]
  | 3 => ["thing"]
  | 4 => ["cells"]
  | 5 => ["thing"]
  | 6 => ["floor"]
  | 7 => ["leap"]
  | 9 => ["down", "right"]
  | 10 => ["leap", "one", "other"]
  | 11 => ["floor", "leap", "cell"]
  | 13 => ["_law_script", "_law_k"]
  | 14 => ["_law_cell_here", "_law_prime", "_law_many"]
  | 15 => ["_law_script", "_law_at", "_law_most"]
  | 16 => ["_law_cell_here"]
  | 20 => ["floor", "leap", "goal"]
  | 21 => ["leap"]
  | 22 => ["leap"]
  | 23 => ["leap", "cell"]
  | 24 => ["floor", "leap", "hue"]
  | 25 => ["floor", "leap"]
  | 30 => ["cells", "leap"]
  | 31 => ["floor", "leap"]
  | 37 => ["floor", "leap", "mates", "cell", "tried"]
  | 38 => ["floor", "leap"]
  | 39 => ["floor", "mates"]
  | 40 => ["floor", "leap", "mates", "hue"]
  | 41 => ["leap", "cell", "crowd", "around"]
  | 42 => ["floor", "leap", "covering"]
  | 43 => ["floor", "leap"]
  | 45 => ["floor", "leap"]
  | 47 => ["floor", "leap"]
  | 52 => ["_law_script"]
  | _ => []
noncomputable def zdx : Nat → List Nat
  | 37 => [2, 4]
  | _ => []
structure Txt (K : PySem.W.Frag) (mg : Str → Option Value) (F : Nat → Addr) (FD : Nat → FuncData) (TK : Nat → Tok) : Prop where
  m0 : mg "is_whole" = some (.ref (F 0))
  f0 : Fun K "is_whole" "is_whole" (top 8) (F 0) (FD 0)
  b0 : Binds K (FD 0) (zaL 0) []
  m1 : mg "is_couple" = some (.ref (F 1))
  f1 : Fun K "is_couple" "is_couple" (top 9) (F 1) (FD 1)
  b1 : Binds K (FD 1) (zaL 1) []
  m2 : mg "is_cell" = some (.ref (F 2))
  f2 : Fun K "is_cell" "is_cell" (top 10) (F 2) (FD 2)
  b2 : Binds K (FD 2) (zaL 2) []
  m3 : mg "is_leap" = some (.ref (F 3))
  f3 : Fun K "is_leap" "is_leap" (top 11) (F 3) (FD 3)
  b3 : Binds K (FD 3) (zaL 3) []
  m4 : mg "is_rising" = some (.ref (F 4))
  f4 : Fun K "is_rising" "is_rising" (top 12) (F 4) (FD 4)
  b4 : Binds K (FD 4) (zaL 4) []
  m5 : mg "is_floor" = some (.ref (F 5))
  f5 : Fun K "is_floor" "is_floor" (top 13) (F 5) (FD 5)
  b5 : Binds K (FD 5) (zaL 5) []
  m6 : mg "checked" = some (.ref (F 6))
  f6 : Fun K "checked" "checked" (top 14) (F 6) (FD 6)
  b6 : Binds K (FD 6) (zaL 6) []
  m7 : mg "checked_leap" = some (.ref (F 7))
  f7 : Fun K "checked_leap" "checked_leap" (top 15) (F 7) (FD 7)
  b7 : Binds K (FD 7) (zaL 7) []
  m9 : mg "folded" = some (.ref (F 9))
  f9 : Fun K "folded" "folded" (top 17) (F 9) (FD 9)
  b9 : Binds K (FD 9) (zaL 9) []
  m10 : mg "are_near" = some (.ref (F 10))
  f10 : Fun K "are_near" "are_near" (top 18) (F 10) (FD 10)
  b10 : Binds K (FD 10) (zaL 10) []
  m11 : mg "cells_near" = some (.ref (F 11))
  f11 : Fun K "cells_near" "cells_near" (top 19) (F 11) (FD 11)
  b11 : Binds K (FD 11) (zaL 11) []
  m13 : mg "_law_cell" = some (.ref (F 13))
  f13 : Fun K "_law_cell" "_law_cell" (top 39) (F 13) (FD 13)
  b13 : Binds K (FD 13) (zaL 13) []
  m14 : mg "_law_mix" = some (.ref (F 14))
  f14 : Fun K "_law_mix" "_law_mix" (top 40) (F 14) (FD 14)
  b14 : Binds K (FD 14) (zaL 14) []
  m15 : mg "_law_floor" = some (.ref (F 15))
  f15 : Fun K "_law_floor" "_law_floor" (top 41) (F 15) (FD 15)
  b15 : Binds K (FD 15) (zaL 15) []
  m16 : mg "_law_leap" = some (.ref (F 16))
  f16 : Fun K "_law_leap" "_law_leap" (top 42) (F 16) (FD 16)
  b16 : Binds K (FD 16) (zaL 16) []
  m20 : mg "leads_to" = some (.ref (F 20))
  f20 : Fun K "leads_to" "leads_to" (top 20) (F 20) (FD 20)
  b20 : Binds K (FD 20) (zaL 20) []
  m21 : mg "greatest_divisor" = some (.ref (F 21))
  f21 : Fun K "greatest_divisor" "greatest_divisor" (top 22) (F 21) (FD 21)
  b21 : Binds K (FD 21) (zaL 21) []
  m22 : mg "has_odd_sum" = some (.ref (F 22))
  f22 : Fun K "has_odd_sum" "has_odd_sum" (top 23) (F 22) (FD 22)
  b22 : Binds K (FD 22) (zaL 22) []
  m23 : mg "hue_of" = some (.ref (F 23))
  f23 : Fun K "hue_of" "hue_of" (top 24) (F 23) (FD 23)
  b23 : Binds K (FD 23) (zaL 23) []
  m24 : mg "cells_of_hue" = some (.ref (F 24))
  f24 : Fun K "cells_of_hue" "cells_of_hue" (top 25) (F 24) (FD 24)
  b24 : Binds K (FD 24) (zaL 24) []
  m25 : mg "hues_of" = some (.ref (F 25))
  f25 : Fun K "hues_of" "hues_of" (top 27) (F 25) (FD 25)
  b25 : Binds K (FD 25) (zaL 25) []
  m30 : mg "parts_within" = some (.ref (F 30))
  f30 : Fun K "parts_within" "parts_within" (top 21) (F 30) (FD 30)
  b30 : Binds K (FD 30) (zaL 30) []
  m31 : mg "parts_of" = some (.ref (F 31))
  f31 : Fun K "parts_of" "parts_of" (top 26) (F 31) (FD 31)
  b31 : Binds K (FD 31) (zaL 31) []
  m37 : mg "finds_mate" = some (.ref (F 37))
  f37 : Fun K "finds_mate" "finds_mate" (top 29) (F 37) (FD 37)
  b37 : Binds K (FD 37) (zaL 37) []
  m38 : mg "all_mates" = some (.ref (F 38))
  f38 : Fun K "all_mates" "all_mates" (top 30) (F 38) (FD 38)
  b38 : Binds K (FD 38) (zaL 38) []
  m39 : mg "pairs_of" = some (.ref (F 39))
  f39 : Fun K "pairs_of" "pairs_of" (top 31) (F 39) (FD 39)
  b39 : Binds K (FD 39) (zaL 39) []
  m40 : mg "crowd_and_around" = some (.ref (F 40))
  f40 : Fun K "crowd_and_around" "crowd_and_around" (top 32) (F 40) (FD 40)
  b40 : Binds K (FD 40) (zaL 40) []
  m41 : mg "is_in_cover" = some (.ref (F 41))
  f41 : Fun K "is_in_cover" "is_in_cover" (top 33) (F 41) (FD 41)
  b41 : Binds K (FD 41) (zaL 41) []
  m42 : mg "cells_by_cover" = some (.ref (F 42))
  f42 : Fun K "cells_by_cover" "cells_by_cover" (top 34) (F 42) (FD 42)
  b42 : Binds K (FD 42) (zaL 42) []
  m43 : mg "most_pairs" = some (.ref (F 43))
  f43 : Fun K "most_pairs" "most_pairs" (top 35) (F 43) (FD 43)
  b43 : Binds K (FD 43) (zaL 43) []
  m45 : mg "peaceful" = some (.ref (F 45))
  f45 : Fun K "peaceful" "peaceful" (top 36) (F 45) (FD 45)
  b45 : Binds K (FD 45) (zaL 45) []
  m47 : mg "paired" = some (.ref (F 47))
  f47 : Fun K "paired" "paired" (top 37) (F 47) (FD 47)
  b47 : Binds K (FD 47) (zaL 47) []
  m52 : mg "law" = some (.ref (F 52))
  f52 : Fun K "law" "law" (top 43) (F 52) (FD 52)
  b52 : Binds K (FD 52) (zaL 52) []
  z_isinstance : mg "isinstance" = none
  z_int : mg "int" = none
  z_bool : mg "bool" = none
  z_len : mg "len" = none
  z_tuple : mg "tuple" = none
  z_range : mg "range" = none
  z_all : mg "all" = none
  z_abs : mg "abs" = none
  z_max : mg "max" = none
  z_min : mg "min" = none
  z_sorted : mg "sorted" = none
  z_sum : mg "sum" = none
  c0 : mg "LAST_LINE" = some (.int 7 (TK 0))
  c1 : mg "MOST_CELLS" = some (.int 24 (TK 1))
  c2 : mg "LONGEST_LEAP" = some (.int 4 (TK 2))
theorem zqv : (("least" : Str) == ("__debug__" : Str)) = false := by decide +kernel
theorem zqw : (("least" : Str) == ("__classdict__" : Str)) = false := by decide +kernel
theorem zbc : (("thing" : Str) == ("__debug__" : Str)) = false := by decide +kernel
theorem zbd : (("thing" : Str) == ("__classdict__" : Str)) = false := by decide +kernel
theorem zs1 : (("most" : Str) == ("__debug__" : Str)) = false := by decide +kernel
theorem zs3 : (("most" : Str) == ("__classdict__" : Str)) = false := by decide +kernel
theorem zvB : (("int" : Str) == ("__debug__" : Str)) = false := by decide +kernel
theorem zvC : ("int" : Str) ≠ "__name__" := by decide +kernel
theorem zs4 : (("bool" : Str) == ("__debug__" : Str)) = false := by decide +kernel
theorem zs5 : ("bool" : Str) ≠ "__name__" := by decide +kernel
theorem zbP : (("len" : Str) == ("__debug__" : Str)) = false := by decide +kernel
theorem zbQ : ("len" : Str) ≠ "__name__" := by decide +kernel
theorem zeh : (("tuple" : Str) == ("__debug__" : Str)) = false := by decide +kernel
theorem zei : ("tuple" : Str) ≠ "__name__" := by decide +kernel
theorem ze9 : (("LAST_LINE" : Str) == ("__debug__" : Str)) = false := by decide +kernel
theorem zcV : (("is_whole" : Str) == ("__debug__" : Str)) = false := by decide +kernel
theorem zfa : (("is_couple" : Str) == ("__debug__" : Str)) = false := by decide +kernel
theorem zf8 : (("LONGEST_LEAP" : Str) == ("__debug__" : Str)) = false := by decide +kernel
theorem zej : (("cells" : Str) == ("__debug__" : Str)) = false := by decide +kernel
theorem zek : (("cells" : Str) == ("__classdict__" : Str)) = false := by decide +kernel
theorem zlT : (("place" : Str) == ("__debug__" : Str)) = false := by decide +kernel
theorem zlU : (("place" : Str) == ("__classdict__" : Str)) = false := by decide +kernel
theorem zrt : (("all" : Str) == ("__debug__" : Str)) = false := by decide +kernel
theorem zru : ("all" : Str) ≠ "__name__" := by decide +kernel
theorem zjF : (("is_rising" : Str) == ("__debug__" : Str)) = false := by decide +kernel
theorem zs6 : (("part" : Str) == ("__debug__" : Str)) = false := by decide +kernel
theorem zs7 : (("part" : Str) == ("__classdict__" : Str)) = false := by decide +kernel
theorem zmO : (("is_cell" : Str) == ("__debug__" : Str)) = false := by decide +kernel
theorem zh0 : (("MOST_CELLS" : Str) == ("__debug__" : Str)) = false := by decide +kernel
theorem zaD : (("floor" : Str) == ("__debug__" : Str)) = false := by decide +kernel
theorem zaE : (("floor" : Str) == ("__classdict__" : Str)) = false := by decide +kernel
theorem zkR : (("is_floor" : Str) == ("__debug__" : Str)) = false := by decide +kernel
theorem zaB : (("leap" : Str) == ("__debug__" : Str)) = false := by decide +kernel
theorem zaC : (("leap" : Str) == ("__classdict__" : Str)) = false := by decide +kernel
theorem zmP : (("is_leap" : Str) == ("__debug__" : Str)) = false := by decide +kernel
theorem zlV : (("right" : Str) == ("__debug__" : Str)) = false := by decide +kernel
theorem zlW : (("right" : Str) == ("__classdict__" : Str)) = false := by decide +kernel
theorem zlX : (("abs" : Str) == ("__debug__" : Str)) = false := by decide +kernel
theorem zlY : ("abs" : Str) ≠ "__name__" := by decide +kernel
theorem zoW : (("down" : Str) == ("__debug__" : Str)) = false := by decide +kernel
theorem zoX : (("down" : Str) == ("__classdict__" : Str)) = false := by decide +kernel
theorem zoY : (("max" : Str) == ("__debug__" : Str)) = false := by decide +kernel
theorem zoZ : ("max" : Str) ≠ "__name__" := by decide +kernel
theorem zvD : (("min" : Str) == ("__debug__" : Str)) = false := by decide +kernel
theorem zvE : ("min" : Str) ≠ "__name__" := by decide +kernel
theorem zbe : (("other" : Str) == ("__debug__" : Str)) = false := by decide +kernel
theorem zbf : (("other" : Str) == ("__classdict__" : Str)) = false := by decide +kernel
theorem zrv : (("one" : Str) == ("__debug__" : Str)) = false := by decide +kernel
theorem zrw : (("one" : Str) == ("__classdict__" : Str)) = false := by decide +kernel
theorem zo0 : (("folded" : Str) == ("__debug__" : Str)) = false := by decide +kernel
theorem zaQ : (("cell" : Str) == ("__debug__" : Str)) = false := by decide +kernel
theorem zaR : (("cell" : Str) == ("__classdict__" : Str)) = false := by decide +kernel
theorem zkS : (("are_near" : Str) == ("__debug__" : Str)) = false := by decide +kernel
theorem zel : (("leads" : Str) == ("__debug__" : Str)) = false := by decide +kernel
theorem zem : (("leads" : Str) == ("__classdict__" : Str)) = false := by decide +kernel
theorem zh1 : (("edge" : Str) == ("__debug__" : Str)) = false := by decide +kernel
theorem zh2 : (("edge" : Str) == ("__classdict__" : Str)) = false := by decide +kernel
theorem zcI : (("further" : Str) == ("__debug__" : Str)) = false := by decide +kernel
theorem zcJ : (("further" : Str) == ("__classdict__" : Str)) = false := by decide +kernel
theorem zcW : (("cells_near" : Str) == ("__debug__" : Str)) = false := by decide +kernel
theorem zo1 : (("goal" : Str) == ("__debug__" : Str)) = false := by decide +kernel
theorem zo2 : (("goal" : Str) == ("__classdict__" : Str)) = false := by decide +kernel
theorem zlZ : (("parts" : Str) == ("__debug__" : Str)) = false := by decide +kernel
theorem zl0 : (("parts" : Str) == ("__classdict__" : Str)) = false := by decide +kernel
theorem zjG : (("placed" : Str) == ("__debug__" : Str)) = false := by decide +kernel
theorem zjH : (("placed" : Str) == ("__classdict__" : Str)) = false := by decide +kernel
theorem zkT : (("leads_to" : Str) == ("__debug__" : Str)) = false := by decide +kernel
theorem zf9 : (("number" : Str) == ("__debug__" : Str)) = false := by decide +kernel
theorem zga : (("number" : Str) == ("__classdict__" : Str)) = false := by decide +kernel
theorem zdy : (("divisor" : Str) == ("__debug__" : Str)) = false := by decide +kernel
theorem zdz : (("divisor" : Str) == ("__classdict__" : Str)) = false := by decide +kernel
theorem zck : (("greatest_divisor" : Str) == ("__debug__" : Str)) = false := by decide +kernel
theorem zrx : (("row" : Str) == ("__debug__" : Str)) = false := by decide +kernel
theorem zry : (("row" : Str) == ("__classdict__" : Str)) = false := by decide +kernel
theorem zgL : (("has_odd_sum" : Str) == ("__debug__" : Str)) = false := by decide +kernel
theorem zo3 : (("column" : Str) == ("__debug__" : Str)) = false := by decide +kernel
theorem zo4 : (("column" : Str) == ("__classdict__" : Str)) = false := by decide +kernel
theorem zgb : (("hue_of" : Str) == ("__debug__" : Str)) = false := by decide +kernel
theorem zrz : (("hue" : Str) == ("__debug__" : Str)) = false := by decide +kernel
theorem zrA : (("hue" : Str) == ("__classdict__" : Str)) = false := by decide +kernel
theorem zgc : (("parts_within" : Str) == ("__debug__" : Str)) = false := by decide +kernel
theorem zbp : (("checked_leap" : Str) == ("__debug__" : Str)) = false := by decide +kernel
theorem zcK : (("checked" : Str) == ("__debug__" : Str)) = false := by decide +kernel
theorem zbH : (("cells_of_hue" : Str) == ("__debug__" : Str)) = false := by decide +kernel
theorem zh3 : (("tried" : Str) == ("__debug__" : Str)) = false := by decide +kernel
theorem zh4 : (("tried" : Str) == ("__classdict__" : Str)) = false := by decide +kernel
theorem zbi : (("mates" : Str) == ("__debug__" : Str)) = false := by decide +kernel
theorem zbj : (("mates" : Str) == ("__classdict__" : Str)) = false := by decide +kernel
theorem zen : (("finds_mate" : Str) == ("__debug__" : Str)) = false := by decide +kernel
theorem zeo : (("around" : Str) == ("__debug__" : Str)) = false := by decide +kernel
theorem zep : (("around" : Str) == ("__classdict__" : Str)) = false := by decide +kernel
theorem zfD : (("crowd" : Str) == ("__debug__" : Str)) = false := by decide +kernel
theorem zfE : (("crowd" : Str) == ("__classdict__" : Str)) = false := by decide +kernel
theorem zh5 : (("found" : Str) == ("__debug__" : Str)) = false := by decide +kernel
theorem zh6 : (("found" : Str) == ("__classdict__" : Str)) = false := by decide +kernel
theorem zgM : (("is_in_cover" : Str) == ("__debug__" : Str)) = false := by decide +kernel
theorem zkU : (("covering" : Str) == ("__debug__" : Str)) = false := by decide +kernel
theorem zkV : (("covering" : Str) == ("__classdict__" : Str)) = false := by decide +kernel
theorem zdo : (("all_mates" : Str) == ("__debug__" : Str)) = false := by decide +kernel
theorem zcl : (("crowd_and_around" : Str) == ("__debug__" : Str)) = false := by decide +kernel
theorem zgd : (("pairs_of" : Str) == ("__debug__" : Str)) = false := by decide +kernel
theorem zeU : (("cells_by_cover" : Str) == ("__debug__" : Str)) = false := by decide +kernel
theorem zjI : (("sorted" : Str) == ("__debug__" : Str)) = false := by decide +kernel
theorem zjJ : ("sorted" : Str) ≠ "__name__" := by decide +kernel
theorem zl1 : (("alone" : Str) == ("__debug__" : Str)) = false := by decide +kernel
theorem zl2 : (("alone" : Str) == ("__classdict__" : Str)) = false := by decide +kernel
theorem zjK : (("_law_k" : Str) == ("__debug__" : Str)) = false := by decide +kernel
theorem zjL : (("_law_k" : Str) == ("__classdict__" : Str)) = false := by decide +kernel
theorem zaY : (("_law_script" : Str) == ("__debug__" : Str)) = false := by decide +kernel
theorem zaZ : (("_law_script" : Str) == ("__classdict__" : Str)) = false := by decide +kernel
theorem zaV : (("_law_cell_here" : Str) == ("__debug__" : Str)) = false := by decide +kernel
theorem zaW : (("_law_cell_here" : Str) == ("__classdict__" : Str)) = false := by decide +kernel
theorem zh7 : (("_law_prime" : Str) == ("__debug__" : Str)) = false := by decide +kernel
theorem zh8 : (("_law_prime" : Str) == ("__classdict__" : Str)) = false := by decide +kernel
theorem zbw : (("_law_many" : Str) == ("__debug__" : Str)) = false := by decide +kernel
theorem zbx : (("_law_many" : Str) == ("__classdict__" : Str)) = false := by decide +kernel
theorem zcX : (("_law_found" : Str) == ("__debug__" : Str)) = false := by decide +kernel
theorem zcY : (("_law_found" : Str) == ("__classdict__" : Str)) = false := by decide +kernel
theorem zjM : (("_law_most" : Str) == ("__debug__" : Str)) = false := by decide +kernel
theorem zjN : (("_law_most" : Str) == ("__classdict__" : Str)) = false := by decide +kernel
theorem zeq : (("_law_right" : Str) == ("__debug__" : Str)) = false := by decide +kernel
theorem zer : (("_law_right" : Str) == ("__classdict__" : Str)) = false := by decide +kernel
theorem zfb : (("_law_down" : Str) == ("__debug__" : Str)) = false := by decide +kernel
theorem zfc : (("_law_down" : Str) == ("__classdict__" : Str)) = false := by decide +kernel
theorem zfd : (("_law_rows" : Str) == ("__debug__" : Str)) = false := by decide +kernel
theorem zfe : (("_law_rows" : Str) == ("__classdict__" : Str)) = false := by decide +kernel
theorem zff : (("_law_wide" : Str) == ("__debug__" : Str)) = false := by decide +kernel
theorem zfg : (("_law_wide" : Str) == ("__classdict__" : Str)) = false := by decide +kernel
theorem zge : (("_law_way" : Str) == ("__debug__" : Str)) = false := by decide +kernel
theorem zgf : (("_law_way" : Str) == ("__classdict__" : Str)) = false := by decide +kernel
theorem zjO : (("_law_seed" : Str) == ("__debug__" : Str)) = false := by decide +kernel
theorem zjP : (("_law_seed" : Str) == ("__classdict__" : Str)) = false := by decide +kernel
theorem zbY : (("_law_mix" : Str) == ("__debug__" : Str)) = false := by decide +kernel
theorem zes : (("_law_c" : Str) == ("__debug__" : Str)) = false := by decide +kernel
theorem zet : (("_law_c" : Str) == ("__classdict__" : Str)) = false := by decide +kernel
theorem zeu : (("_law_r" : Str) == ("__debug__" : Str)) = false := by decide +kernel
theorem zev : (("_law_r" : Str) == ("__classdict__" : Str)) = false := by decide +kernel
theorem zce : (("_law_at" : Str) == ("__debug__" : Str)) = false := by decide +kernel
theorem zcf : (("_law_at" : Str) == ("__classdict__" : Str)) = false := by decide +kernel
theorem zby : (("_law_cell" : Str) == ("__debug__" : Str)) = false := by decide +kernel
theorem zjQ : (("_law_some" : Str) == ("__debug__" : Str)) = false := by decide +kernel
theorem zjR : (("_law_some" : Str) == ("__classdict__" : Str)) = false := by decide +kernel
theorem zaI : (("_law_leap_here" : Str) == ("__debug__" : Str)) = false := by decide +kernel
theorem zaJ : (("_law_leap_here" : Str) == ("__classdict__" : Str)) = false := by decide +kernel
theorem zdM : (("_law_turned" : Str) == ("__debug__" : Str)) = false := by decide +kernel
theorem zdN : (("_law_turned" : Str) == ("__classdict__" : Str)) = false := by decide +kernel
theorem zo5 : (("paired" : Str) == ("__debug__" : Str)) = false := by decide +kernel
theorem zaz : (("_law_floor_here" : Str) == ("__debug__" : Str)) = false := by decide +kernel
theorem zaA : (("_law_floor_here" : Str) == ("__classdict__" : Str)) = false := by decide +kernel
theorem zcb : (("most_pairs" : Str) == ("__debug__" : Str)) = false := by decide +kernel
theorem zcZ : (("_law_peace" : Str) == ("__debug__" : Str)) = false := by decide +kernel
theorem zc0 : (("_law_peace" : Str) == ("__classdict__" : Str)) = false := by decide +kernel
theorem zfh : (("_law_less" : Str) == ("__debug__" : Str)) = false := by decide +kernel
theorem zfi : (("_law_less" : Str) == ("__classdict__" : Str)) = false := by decide +kernel
theorem zgg : (("peaceful" : Str) == ("__debug__" : Str)) = false := by decide +kernel
theorem zkW : (("parts_of" : Str) == ("__debug__" : Str)) = false := by decide +kernel
theorem zjS : (("_law_part" : Str) == ("__debug__" : Str)) = false := by decide +kernel
theorem zjT : (("_law_part" : Str) == ("__classdict__" : Str)) = false := by decide +kernel
theorem zvF : (("sum" : Str) == ("__debug__" : Str)) = false := by decide +kernel
theorem zvG : ("sum" : Str) ≠ "__name__" := by decide +kernel
theorem zmQ : (("hues_of" : Str) == ("__debug__" : Str)) = false := by decide +kernel
theorem zh9 : (("_law_cells" : Str) == ("__debug__" : Str)) = false := by decide +kernel
theorem zia : (("_law_cells" : Str) == ("__classdict__" : Str)) = false := by decide +kernel
theorem zjU : (("_law_leap" : Str) == ("__debug__" : Str)) = false := by decide +kernel
theorem zib : (("_law_floor" : Str) == ("__debug__" : Str)) = false := by decide +kernel
theorem sc0 : FnScope ["thing", "least", "most"] ["thing", "least", "most"] (zaa (top 8)) := ⟨rfl, rfl, rfl, by decide +kernel, rfl, by decide +kernel, by decide +kernel⟩
theorem zqx : Vis (zaa (top 8)) "least" := .inl (by decide +kernel)
theorem zic : Vis (zaa (top 8)) "thing" := .inl (by decide +kernel)
theorem zs8 : Vis (zaa (top 8)) "most" := .inl (by decide +kernel)
theorem zew : (zaa (top 8)).names.lookup ("isinstance" : Str) = some .globalImplicit := by decide +kernel
theorem zvH : (zaa (top 8)).names.lookup ("int" : Str) = some .globalImplicit := by decide +kernel
theorem zs9 : (zaa (top 8)).names.lookup ("bool" : Str) = some .globalImplicit := by decide +kernel
theorem sc1 : FnScope ["thing"] ["thing"] (zaa (top 9)) := ⟨rfl, rfl, rfl, by decide +kernel, rfl, by decide +kernel, by decide +kernel⟩
theorem zl3 : Vis (zaa (top 9)) "thing" := .inl (by decide +kernel)
theorem zvI : (zaa (top 9)).names.lookup ("len" : Str) = some .globalImplicit := by decide +kernel
theorem zid : (zaa (top 9)).names.lookup ("isinstance" : Str) = some .globalImplicit := by decide +kernel
theorem zqy : (zaa (top 9)).names.lookup ("tuple" : Str) = some .globalImplicit := by decide +kernel
theorem sc2 : FnScope ["thing"] ["thing"] (zaa (top 10)) := ⟨rfl, rfl, rfl, by decide +kernel, rfl, by decide +kernel, by decide +kernel⟩
theorem zie : Vis (zaa (top 10)) "thing" := .inl (by decide +kernel)
theorem zfj : (zaa (top 10)).names.lookup ("LAST_LINE" : Str) = some .globalImplicit := by decide +kernel
theorem zgh : (zaa (top 10)).names.lookup ("is_whole" : Str) = some .globalImplicit := by decide +kernel
theorem zjV : (zaa (top 10)).names.lookup ("is_couple" : Str) = some .globalImplicit := by decide +kernel
theorem sc3 : FnScope ["thing"] ["thing"] (zaa (top 11)) := ⟨rfl, rfl, rfl, by decide +kernel, rfl, by decide +kernel, by decide +kernel⟩
theorem zfF : Vis (zaa (top 11)) "thing" := .inl (by decide +kernel)
theorem zgi : (zaa (top 11)).names.lookup ("is_whole" : Str) = some .globalImplicit := by decide +kernel
theorem zgj : (zaa (top 11)).names.lookup ("LONGEST_LEAP" : Str) = some .globalImplicit := by decide +kernel
theorem zjW : (zaa (top 11)).names.lookup ("is_couple" : Str) = some .globalImplicit := by decide +kernel
theorem sc4 : FnScope ["cells"] ["cells"] (zaa (top 12)) := ⟨rfl, rfl, rfl, by decide +kernel, rfl, by decide +kernel, by decide +kernel⟩
theorem zqz : Vis (zaa (top 12)) "cells" := .inr (.inl (by decide +kernel))
theorem zvJ : (zaa (top 12)).names.lookup ("len" : Str) = some .globalImplicit := by decide +kernel
theorem zqA : (zaa (top 12)).names.lookup ("range" : Str) = some .globalImplicit := by decide +kernel
theorem zvK : (zaa (top 12)).names.lookup ("all" : Str) = some .globalImplicit := by decide +kernel
theorem sc5 : FnScope ["thing"] ["thing"] (zaa (top 13)) := ⟨rfl, rfl, rfl, by decide +kernel, rfl, by decide +kernel, by decide +kernel⟩
theorem zfG : Vis (zaa (top 13)) "thing" := .inl (by decide +kernel)
theorem zjX : (zaa (top 13)).names.lookup ("is_rising" : Str) = some .globalImplicit := by decide +kernel
theorem zvL : (zaa (top 13)).names.lookup ("all" : Str) = some .globalImplicit := by decide +kernel
theorem zvM : (zaa (top 13)).names.lookup ("len" : Str) = some .globalImplicit := by decide +kernel
theorem zif : (zaa (top 13)).names.lookup ("MOST_CELLS" : Str) = some .globalImplicit := by decide +kernel
theorem zig : (zaa (top 13)).names.lookup ("isinstance" : Str) = some .globalImplicit := by decide +kernel
theorem zqB : (zaa (top 13)).names.lookup ("tuple" : Str) = some .globalImplicit := by decide +kernel
theorem sc6 : FnScope ["floor"] ["floor"] (zaa (top 14)) := ⟨rfl, rfl, rfl, by decide +kernel, rfl, by decide +kernel, by decide +kernel⟩
theorem zl4 : Vis (zaa (top 14)) "floor" := .inl (by decide +kernel)
theorem zkX : (zaa (top 14)).names.lookup ("is_floor" : Str) = some .globalImplicit := by decide +kernel
theorem sc7 : FnScope ["leap"] ["leap"] (zaa (top 15)) := ⟨rfl, rfl, rfl, by decide +kernel, rfl, by decide +kernel, by decide +kernel⟩
theorem zo6 : Vis (zaa (top 15)) "leap" := .inl (by decide +kernel)
theorem zmR : (zaa (top 15)).names.lookup ("is_leap" : Str) = some .globalImplicit := by decide +kernel
theorem sc9 : FnScope ["down", "right"] ["down", "right"] (zaa (top 17)) := ⟨rfl, rfl, rfl, by decide +kernel, rfl, by decide +kernel, by decide +kernel⟩
theorem zl5 : Vis (zaa (top 17)) "right" := .inl (by decide +kernel)
theorem zo7 : Vis (zaa (top 17)) "down" := .inl (by decide +kernel)
theorem zl6 : (zaa (top 17)).names.lookup ("abs" : Str) = some .globalImplicit := by decide +kernel
theorem zvN : (zaa (top 17)).names.lookup ("max" : Str) = some .globalImplicit := by decide +kernel
theorem zvO : (zaa (top 17)).names.lookup ("min" : Str) = some .globalImplicit := by decide +kernel
theorem zzH : FnScope ["leap", "one", "other"] ["leap", "one", "other"] (zaa (top 18)) := ⟨rfl, rfl, rfl, by decide +kernel, rfl, by decide +kernel, by decide +kernel⟩
theorem zjY : Vis (zaa (top 18)) "other" := .inl (by decide +kernel)
theorem zo8 : Vis (zaa (top 18)) "one" := .inl (by decide +kernel)
theorem zqC : Vis (zaa (top 18)) "leap" := .inl (by decide +kernel)
theorem zmS : (zaa (top 18)).names.lookup ("folded" : Str) = some .globalImplicit := by decide +kernel
theorem zzI : FnScope ["floor", "leap", "cell"] ["floor", "leap", "cell"] (zaa (top 19)) := ⟨rfl, rfl, rfl, by decide +kernel, rfl, by decide +kernel, by decide +kernel⟩
theorem zo9 : Vis (zaa (top 19)) "floor" := .inl (by decide +kernel)
theorem zzJ : FnScope ["_law_script", "_law_k"] ["_law_script", "_law_k"] (zaa (top 39)) := ⟨rfl, rfl, rfl, by decide +kernel, rfl, by decide +kernel, by decide +kernel⟩
theorem zhn : Vis (zaa (top 39)) "_law_k" := .inl (by decide +kernel)
theorem zdp : Vis (zaa (top 39)) "_law_script" := .inl (by decide +kernel)
theorem zta : (zaa (top 39)).names.lookup ("len" : Str) = some .globalImplicit := by decide +kernel
theorem zzK : FnScope ["_law_cell_here", "_law_prime", "_law_many"] ["_law_cell_here", "_law_prime", "_law_many"] (zaa (top 40)) := ⟨rfl, rfl, rfl, by decide +kernel, rfl, by decide +kernel, by decide +kernel⟩
theorem zex : Vis (zaa (top 40)) "_law_cell_here" := .inl (by decide +kernel)
theorem zgN : Vis (zaa (top 40)) "_law_prime" := .inl (by decide +kernel)
theorem zih : Vis (zaa (top 40)) "_law_many" := .inl (by decide +kernel)
theorem zna : FnScope ["_law_script", "_law_at", "_law_most", "_law_cell_here", "_law_rows", "_law_wide", "_law_down", "_law_right", "_law_way", "_law_found", "_law_r", "_law_c", "_law_seed"] ["_law_script", "_law_at", "_law_most"] (zaa (top 41)) := ⟨rfl, rfl, rfl, by decide +kernel, rfl, by decide +kernel, by decide +kernel⟩
theorem zcv : Vis (zaa (top 41)) "_law_found" := .inl (by decide +kernel)
theorem zii : Vis (zaa (top 41)) "_law_most" := .inl (by decide +kernel)
theorem zdO : Vis (zaa (top 41)) "_law_right" := .inl (by decide +kernel)
theorem zey : Vis (zaa (top 41)) "_law_down" := .inl (by decide +kernel)
theorem zez : Vis (zaa (top 41)) "_law_rows" := .inl (by decide +kernel)
theorem zeA : Vis (zaa (top 41)) "_law_wide" := .inl (by decide +kernel)
theorem zfk : Vis (zaa (top 41)) "_law_way" := .inl (by decide +kernel)
theorem zij : Vis (zaa (top 41)) "_law_seed" := .inl (by decide +kernel)
theorem zdA : Vis (zaa (top 41)) "_law_c" := .inl (by decide +kernel)
theorem zdB : Vis (zaa (top 41)) "_law_r" := .inl (by decide +kernel)
theorem zc1 : Vis (zaa (top 41)) "_law_at" := .inl (by decide +kernel)
theorem zbI : Vis (zaa (top 41)) "_law_script" := .inl (by decide +kernel)
theorem zbJ : Vis (zaa (top 41)) "_law_cell_here" := .inl (by decide +kernel)
theorem zdP : Loc (zaa (top 41)) "_law_found" := .inl (by decide +kernel)
theorem zik : Loc (zaa (top 41)) "_law_seed" := .inl (by decide +kernel)
theorem zmT : Loc (zaa (top 41)) "_law_c" := .inl (by decide +kernel)
theorem zmU : Loc (zaa (top 41)) "_law_r" := .inl (by decide +kernel)
theorem zjZ : Loc (zaa (top 41)) "_law_way" := .inl (by decide +kernel)
theorem zgO : Loc (zaa (top 41)) "_law_right" := .inl (by decide +kernel)
theorem zil : Loc (zaa (top 41)) "_law_down" := .inl (by decide +kernel)
theorem zim : Loc (zaa (top 41)) "_law_wide" := .inl (by decide +kernel)
theorem zin : Loc (zaa (top 41)) "_law_rows" := .inl (by decide +kernel)
theorem zeB : Loc (zaa (top 41)) "_law_cell_here" := .inl (by decide +kernel)
theorem zpa : (zaa (top 41)).names.lookup ("tuple" : Str) = some .globalImplicit := by decide +kernel
theorem zj0 : (zaa (top 41)).names.lookup ("range" : Str) = some .globalImplicit := by decide +kernel
theorem zbz : (zaa (top 41)).names.lookup ("_law_mix" : Str) = some .globalImplicit := by decide +kernel
theorem zcc : (zaa (top 41)).names.lookup ("_law_cell" : Str) = some .globalImplicit := by decide +kernel
theorem zyY : FnScope ["_law_cell_here", "_law_some"] ["_law_cell_here"] (zaa (top 42)) := ⟨rfl, rfl, rfl, by decide +kernel, rfl, by decide +kernel, by decide +kernel⟩
theorem zio : Vis (zaa (top 42)) "_law_some" := .inl (by decide +kernel)
theorem zeC : Vis (zaa (top 42)) "_law_cell_here" := .inl (by decide +kernel)
theorem ziq : Loc (zaa (top 42)) "_law_some" := .inl (by decide +kernel)
theorem ztb : FnScope ["floor", "leap", "goal", "leads", "edge", "further", "cell", "other"] ["floor", "leap", "goal"] (zaa (top 20)) := ⟨rfl, rfl, rfl, by decide +kernel, rfl, by decide +kernel, by decide +kernel⟩
theorem zgk : Vis (zaa (top 20)) "leads" := .inl (by decide +kernel)
theorem zl7 : Vis (zaa (top 20)) "edge" := .inl (by decide +kernel)
theorem zgl : Vis (zaa (top 20)) "further" := .inl (by decide +kernel)
theorem zl8 : Vis (zaa (top 20)) "cell" := .inl (by decide +kernel)
theorem zqD : Vis (zaa (top 20)) "leap" := .inl (by decide +kernel)
theorem zpb : Vis (zaa (top 20)) "floor" := .inl (by decide +kernel)
theorem zgm : Vis (zaa (top 20)) "other" := .inl (by decide +kernel)
theorem zl9 : Vis (zaa (top 20)) "goal" := .inl (by decide +kernel)
theorem zma : Loc (zaa (top 20)) "edge" := .inl (by decide +kernel)
theorem zpc : Loc (zaa (top 20)) "other" := .inl (by decide +kernel)
theorem zqE : Loc (zaa (top 20)) "cell" := .inl (by decide +kernel)
theorem zkY : Loc (zaa (top 20)) "further" := .inl (by decide +kernel)
theorem zpd : Loc (zaa (top 20)) "leads" := .inl (by decide +kernel)
theorem ztc : (zaa (top 20)).names.lookup ("len" : Str) = some .globalImplicit := by decide +kernel
theorem zgP : (zaa (top 20)).names.lookup ("cells_near" : Str) = some .globalImplicit := by decide +kernel
theorem zzL : FnScope ["leap"] ["leap"] (zaa (top 22)) := ⟨rfl, rfl, rfl, by decide +kernel, rfl, by decide +kernel, by decide +kernel⟩
theorem zqF : Vis (zaa (top 22)) "leap" := .inr (.inl (by decide +kernel))
theorem zpe : (zaa (top 22)).names.lookup ("range" : Str) = some .globalImplicit := by decide +kernel
theorem ztd : (zaa (top 22)).names.lookup ("max" : Str) = some .globalImplicit := by decide +kernel
theorem zyZ : FnScope ["leap", "divisor"] ["leap"] (zaa (top 23)) := ⟨rfl, rfl, rfl, by decide +kernel, rfl, by decide +kernel, by decide +kernel⟩
theorem zir : Vis (zaa (top 23)) "leap" := .inl (by decide +kernel)
theorem zgn : Vis (zaa (top 23)) "divisor" := .inl (by decide +kernel)
theorem zkZ : Loc (zaa (top 23)) "divisor" := .inl (by decide +kernel)
theorem zdC : (zaa (top 23)).names.lookup ("greatest_divisor" : Str) = some .globalImplicit := by decide +kernel
theorem zw6 : FnScope ["leap", "cell", "divisor", "row", "column"] ["leap", "cell"] (zaa (top 24)) := ⟨rfl, rfl, rfl, by decide +kernel, rfl, by decide +kernel, by decide +kernel⟩
theorem zpf : Vis (zaa (top 24)) "row" := .inl (by decide +kernel)
theorem zmb : Vis (zaa (top 24)) "leap" := .inl (by decide +kernel)
theorem zmV : Vis (zaa (top 24)) "column" := .inl (by decide +kernel)
theorem zmc : Vis (zaa (top 24)) "cell" := .inl (by decide +kernel)
theorem zgo : Vis (zaa (top 24)) "divisor" := .inl (by decide +kernel)
theorem zmW : Loc (zaa (top 24)) "column" := .inl (by decide +kernel)
theorem zte : Loc (zaa (top 24)) "row" := .inl (by decide +kernel)
theorem zk0 : Loc (zaa (top 24)) "divisor" := .inl (by decide +kernel)
theorem zgp : (zaa (top 24)).names.lookup ("has_odd_sum" : Str) = some .globalImplicit := by decide +kernel
theorem zdD : (zaa (top 24)).names.lookup ("greatest_divisor" : Str) = some .globalImplicit := by decide +kernel
theorem zzM : FnScope ["floor", "leap", "hue"] ["floor", "leap", "hue"] (zaa (top 25)) := ⟨rfl, rfl, rfl, by decide +kernel, rfl, by decide +kernel, by decide +kernel⟩
theorem zpg : Vis (zaa (top 25)) "floor" := .inl (by decide +kernel)
theorem zzN : FnScope ["floor", "leap"] ["floor", "leap"] (zaa (top 27)) := ⟨rfl, rfl, rfl, by decide +kernel, rfl, by decide +kernel, by decide +kernel⟩
theorem zis : Vis (zaa (top 27)) "leap" := .inl (by decide +kernel)
theorem zgq : Vis (zaa (top 27)) "floor" := .inl (by decide +kernel)
theorem zc8 : (zaa (top 27)).names.lookup ("cells_of_hue" : Str) = some .globalImplicit := by decide +kernel
theorem zfp : (zaa (top 27)).names.lookup ("checked_leap" : Str) = some .globalImplicit := by decide +kernel
theorem zk1 : (zaa (top 27)).names.lookup ("checked" : Str) = some .globalImplicit := by decide +kernel
theorem zvP : FnScope ["cells", "leap", "parts", "placed", "cell", "leads"] ["cells", "leap"] (zaa (top 21)) := ⟨rfl, rfl, rfl, by decide +kernel, rfl, by decide +kernel, by decide +kernel⟩
theorem zj1 : Vis (zaa (top 21)) "parts" := .inl (by decide +kernel)
theorem zmd : Vis (zaa (top 21)) "cell" := .inl (by decide +kernel)
theorem zho : Vis (zaa (top 21)) "placed" := .inl (by decide +kernel)
theorem zj2 : Vis (zaa (top 21)) "leads" := .inl (by decide +kernel)
theorem zqG : Vis (zaa (top 21)) "leap" := .inl (by decide +kernel)
theorem zj3 : Vis (zaa (top 21)) "cells" := .inl (by decide +kernel)
theorem zph : Loc (zaa (top 21)) "leads" := .inl (by decide +kernel)
theorem zqH : Loc (zaa (top 21)) "cell" := .inl (by decide +kernel)
theorem zmX : Loc (zaa (top 21)) "placed" := .inl (by decide +kernel)
theorem zpi : Loc (zaa (top 21)) "parts" := .inl (by decide +kernel)
theorem zmY : (zaa (top 21)).names.lookup ("sorted" : Str) = some .globalImplicit := by decide +kernel
theorem zj4 : (zaa (top 21)).names.lookup ("leads_to" : Str) = some .globalImplicit := by decide +kernel
theorem zzO : FnScope ["floor", "leap"] ["floor", "leap"] (zaa (top 26)) := ⟨rfl, rfl, rfl, by decide +kernel, rfl, by decide +kernel, by decide +kernel⟩
theorem zme : Vis (zaa (top 26)) "leap" := .inl (by decide +kernel)
theorem zj5 : Vis (zaa (top 26)) "floor" := .inl (by decide +kernel)
theorem zfq : (zaa (top 26)).names.lookup ("parts_within" : Str) = some .globalImplicit := by decide +kernel
theorem zfr : (zaa (top 26)).names.lookup ("checked_leap" : Str) = some .globalImplicit := by decide +kernel
theorem zk2 : (zaa (top 26)).names.lookup ("checked" : Str) = some .globalImplicit := by decide +kernel
theorem zy0 : FnScope ["floor", "leap", "mates", "cell", "tried", "other"] ["floor", "leap", "mates", "cell", "tried"] (zaa (top 29)) := ⟨rfl, rfl, rfl, by decide +kernel, rfl, by decide +kernel, by decide +kernel⟩
theorem zit : Vis (zaa (top 29)) "cell" := .inl (by decide +kernel)
theorem zmf : Vis (zaa (top 29)) "leap" := .inl (by decide +kernel)
theorem zj6 : Vis (zaa (top 29)) "floor" := .inl (by decide +kernel)
theorem zcL : Vis (zaa (top 29)) "other" := .inl (by decide +kernel)
theorem zgr : Vis (zaa (top 29)) "tried" := .inl (by decide +kernel)
theorem zdq : Vis (zaa (top 29)) "mates" := .inl (by decide +kernel)
theorem zpj : Loc (zaa (top 29)) "other" := .inl (by decide +kernel)
theorem zgQ : (zaa (top 29)).names.lookup ("cells_near" : Str) = some .globalImplicit := by decide +kernel
theorem zgR : (zaa (top 29)).names.lookup ("finds_mate" : Str) = some .globalImplicit := by decide +kernel
theorem zyp : FnScope ["floor", "leap", "mates", "cell"] ["floor", "leap"] (zaa (top 30)) := ⟨rfl, rfl, rfl, by decide +kernel, rfl, by decide +kernel, by decide +kernel⟩
theorem zj7 : Vis (zaa (top 30)) "mates" := .inl (by decide +kernel)
theorem zmg : Vis (zaa (top 30)) "leap" := .inl (by decide +kernel)
theorem zj8 : Vis (zaa (top 30)) "floor" := .inl (by decide +kernel)
theorem zqI : Vis (zaa (top 30)) "cell" := .inl (by decide +kernel)
theorem zqJ : Loc (zaa (top 30)) "cell" := .inl (by decide +kernel)
theorem zpk : Loc (zaa (top 30)) "mates" := .inl (by decide +kernel)
theorem zfs : (zaa (top 30)).names.lookup ("cells_of_hue" : Str) = some .globalImplicit := by decide +kernel
theorem zgS : (zaa (top 30)).names.lookup ("finds_mate" : Str) = some .globalImplicit := by decide +kernel
theorem zzP : FnScope ["floor", "mates"] ["floor", "mates"] (zaa (top 31)) := ⟨rfl, rfl, rfl, by decide +kernel, rfl, by decide +kernel, by decide +kernel⟩
theorem zpl : Vis (zaa (top 31)) "floor" := .inl (by decide +kernel)
theorem zqK : FnScope ["floor", "leap", "mates", "hue", "crowd", "around", "edge", "further", "cell", "other"] ["floor", "leap", "mates", "hue"] (zaa (top 32)) := ⟨rfl, rfl, rfl, by decide +kernel, rfl, by decide +kernel, by decide +kernel⟩
theorem zeV : Vis (zaa (top 32)) "around" := .inl (by decide +kernel)
theorem zgs : Vis (zaa (top 32)) "crowd" := .inl (by decide +kernel)
theorem zmh : Vis (zaa (top 32)) "edge" := .inl (by decide +kernel)
theorem zd1 : Vis (zaa (top 32)) "further" := .inl (by decide +kernel)
theorem zqL : Vis (zaa (top 32)) "cell" := .inl (by decide +kernel)
theorem zmi : Vis (zaa (top 32)) "leap" := .inl (by decide +kernel)
theorem zj9 : Vis (zaa (top 32)) "floor" := .inl (by decide +kernel)
theorem zgt : Vis (zaa (top 32)) "other" := .inl (by decide +kernel)
theorem zpm : Vis (zaa (top 32)) "mates" := .inr (.inl (by decide +kernel))
theorem ztf : Vis (zaa (top 32)) "hue" := .inl (by decide +kernel)
theorem zmj : Loc (zaa (top 32)) "edge" := .inl (by decide +kernel)
theorem zpn : Loc (zaa (top 32)) "crowd" := .inl (by decide +kernel)
theorem zpo : Loc (zaa (top 32)) "other" := .inl (by decide +kernel)
theorem zqM : Loc (zaa (top 32)) "cell" := .inl (by decide +kernel)
theorem zk3 : Loc (zaa (top 32)) "further" := .inl (by decide +kernel)
theorem zmZ : Loc (zaa (top 32)) "around" := .inl (by decide +kernel)
theorem zm0 : (zaa (top 32)).names.lookup ("crowd" : Str) = some .local := by decide +kernel
theorem ztg : (zaa (top 32)).names.lookup ("len" : Str) = some .globalImplicit := by decide +kernel
theorem zgT : (zaa (top 32)).names.lookup ("cells_near" : Str) = some .globalImplicit := by decide +kernel
theorem zft : (zaa (top 32)).names.lookup ("cells_of_hue" : Str) = some .globalImplicit := by decide +kernel
theorem zzQ : FnScope ["leap", "cell", "crowd", "around"] ["leap", "cell", "crowd", "around"] (zaa (top 33)) := ⟨rfl, rfl, rfl, by decide +kernel, rfl, by decide +kernel, by decide +kernel⟩
theorem ziu : Vis (zaa (top 33)) "cell" := .inl (by decide +kernel)
theorem zm1 : Vis (zaa (top 33)) "around" := .inl (by decide +kernel)
theorem zqN : Vis (zaa (top 33)) "leap" := .inl (by decide +kernel)
theorem zpp : Vis (zaa (top 33)) "crowd" := .inl (by decide +kernel)
theorem zm2 : (zaa (top 33)).names.lookup ("hue_of" : Str) = some .globalImplicit := by decide +kernel
theorem zy1 : FnScope ["floor", "leap", "covering", "found"] ["floor", "leap", "covering"] (zaa (top 34)) := ⟨rfl, rfl, rfl, by decide +kernel, rfl, by decide +kernel, by decide +kernel⟩
theorem zeD : Vis (zaa (top 34)) "floor" := .inl (by decide +kernel)
theorem ziv : Vis (zaa (top 34)) "leap" := .inr (.inl (by decide +kernel))
theorem zpq : Loc (zaa (top 34)) "found" := .inr (by decide +kernel)
theorem ziw : (zaa (top 34)).names.lookup ("all_mates" : Str) = some .globalImplicit := by decide +kernel
theorem zdE : (zaa (top 34)).names.lookup ("crowd_and_around" : Str) = some .globalImplicit := by decide +kernel
theorem zfu : (zaa (top 34)).names.lookup ("checked_leap" : Str) = some .globalImplicit := by decide +kernel
theorem zk4 : (zaa (top 34)).names.lookup ("checked" : Str) = some .globalImplicit := by decide +kernel
theorem zzR : FnScope ["floor", "leap"] ["floor", "leap"] (zaa (top 35)) := ⟨rfl, rfl, rfl, by decide +kernel, rfl, by decide +kernel, by decide +kernel⟩
theorem zmk : Vis (zaa (top 35)) "leap" := .inl (by decide +kernel)
theorem zgu : Vis (zaa (top 35)) "floor" := .inl (by decide +kernel)
theorem zix : (zaa (top 35)).names.lookup ("all_mates" : Str) = some .globalImplicit := by decide +kernel
theorem zka : (zaa (top 35)).names.lookup ("pairs_of" : Str) = some .globalImplicit := by decide +kernel
theorem zfv : (zaa (top 35)).names.lookup ("checked_leap" : Str) = some .globalImplicit := by decide +kernel
theorem zk5 : (zaa (top 35)).names.lookup ("checked" : Str) = some .globalImplicit := by decide +kernel
theorem zzS : FnScope ["floor", "leap"] ["floor", "leap"] (zaa (top 36)) := ⟨rfl, rfl, rfl, by decide +kernel, rfl, by decide +kernel, by decide +kernel⟩
theorem zqO : Vis (zaa (top 36)) "leap" := .inl (by decide +kernel)
theorem zpr : Vis (zaa (top 36)) "floor" := .inl (by decide +kernel)
theorem zeE : (zaa (top 36)).names.lookup ("cells_by_cover" : Str) = some .globalImplicit := by decide +kernel
theorem zw7 : FnScope ["floor", "leap", "mates", "alone", "found"] ["floor", "leap"] (zaa (top 37)) := ⟨rfl, rfl, rfl, by decide +kernel, rfl, by decide +kernel, by decide +kernel⟩
theorem zps : Vis (zaa (top 37)) "found" := .inl (by decide +kernel)
theorem zkb : Vis (zaa (top 37)) "alone" := .inl (by decide +kernel)
theorem zfH : Vis (zaa (top 37)) "leap" := .inl (by decide +kernel)
theorem zkc : Vis (zaa (top 37)) "mates" := .inr (.inl (by decide +kernel))
theorem zdr : Vis (zaa (top 37)) "floor" := .inl (by decide +kernel)
theorem zpt : Loc (zaa (top 37)) "found" := .inl (by decide +kernel)
theorem zpu : Loc (zaa (top 37)) "mates" := .inr (by decide +kernel)
theorem zm3 : (zaa (top 37)).names.lookup ("alone" : Str) = some .local := by decide +kernel
theorem zm4 : (zaa (top 37)).names.lookup ("sorted" : Str) = some .globalImplicit := by decide +kernel
theorem zm5 : (zaa (top 37)).names.lookup ("hue_of" : Str) = some .globalImplicit := by decide +kernel
theorem zdF : (zaa (top 37)).names.lookup ("crowd_and_around" : Str) = some .globalImplicit := by decide +kernel
theorem zth : (zaa (top 37)).names.lookup ("len" : Str) = some .globalImplicit := by decide +kernel
theorem zkd : (zaa (top 37)).names.lookup ("pairs_of" : Str) = some .globalImplicit := by decide +kernel
theorem ziy : (zaa (top 37)).names.lookup ("all_mates" : Str) = some .globalImplicit := by decide +kernel
theorem zfw : (zaa (top 37)).names.lookup ("checked_leap" : Str) = some .globalImplicit := by decide +kernel
theorem zk6 : (zaa (top 37)).names.lookup ("checked" : Str) = some .globalImplicit := by decide +kernel
theorem zrB : FnScope ["_law_script", "_law_floor_here", "_law_leap_here", "_law_many", "_law_peace", "_law_at", "_law_less", "_law_turned"] ["_law_script"] (zaa (top 43)) := ⟨rfl, rfl, rfl, by decide +kernel, rfl, by decide +kernel, by decide +kernel⟩
theorem zaK : Vis (zaa (top 43)) "_law_leap_here" := .inr (.inl (by decide +kernel))
theorem zds : Vis (zaa (top 43)) "_law_turned" := .inl (by decide +kernel)
theorem zbK : Vis (zaa (top 43)) "_law_many" := .inl (by decide +kernel)
theorem zax : Vis (zaa (top 43)) "_law_floor_here" := .inl (by decide +kernel)
theorem zcw : Vis (zaa (top 43)) "_law_peace" := .inl (by decide +kernel)
theorem zeF : Vis (zaa (top 43)) "_law_less" := .inl (by decide +kernel)
theorem zgv : Vis (zaa (top 43)) "_law_at" := .inl (by decide +kernel)
theorem zcm : Vis (zaa (top 43)) "_law_script" := .inl (by decide +kernel)
theorem zgw : Loc (zaa (top 43)) "_law_turned" := .inl (by decide +kernel)
theorem ziz : Loc (zaa (top 43)) "_law_less" := .inl (by decide +kernel)
theorem zk7 : Loc (zaa (top 43)) "_law_at" := .inl (by decide +kernel)
theorem zgU : Loc (zaa (top 43)) "_law_peace" := .inl (by decide +kernel)
theorem ziA : Loc (zaa (top 43)) "_law_many" := .inl (by decide +kernel)
theorem zeG : Loc (zaa (top 43)) "_law_leap_here" := .inr (by decide +kernel)
theorem zd2 : Loc (zaa (top 43)) "_law_floor_here" := .inl (by decide +kernel)
theorem zm6 : (zaa (top 43)).names.lookup ("paired" : Str) = some .globalImplicit := by decide +kernel
theorem zc2 : (zaa (top 43)).names.lookup ("len" : Str) = some .globalImplicit := by decide +kernel
theorem zcx : (zaa (top 43)).names.lookup ("most_pairs" : Str) = some .globalImplicit := by decide +kernel
theorem zm7 : (zaa (top 43)).names.lookup ("sorted" : Str) = some .globalImplicit := by decide +kernel
theorem zpv : (zaa (top 43)).names.lookup ("tuple" : Str) = some .globalImplicit := by decide +kernel
theorem zfl : (zaa (top 43)).names.lookup ("peaceful" : Str) = some .globalImplicit := by decide +kernel
theorem zeH : (zaa (top 43)).names.lookup ("_law_cell" : Str) = some .globalImplicit := by decide +kernel
theorem zke : (zaa (top 43)).names.lookup ("parts_of" : Str) = some .globalImplicit := by decide +kernel
theorem zti : (zaa (top 43)).names.lookup ("sum" : Str) = some .globalImplicit := by decide +kernel
theorem zk8 : (zaa (top 43)).names.lookup ("hues_of" : Str) = some .globalImplicit := by decide +kernel
theorem ztj : (zaa (top 43)).names.lookup ("max" : Str) = some .globalImplicit := by decide +kernel
theorem ziB : (zaa (top 43)).names.lookup ("_law_leap" : Str) = some .globalImplicit := by decide +kernel
theorem zgV : (zaa (top 43)).names.lookup ("_law_floor" : Str) = some .globalImplicit := by decide +kernel
section
variable {Pg : Program} {w : World} {K : PySem.W.Frag} {mg : Str → Option Value} {base : Heap} {F : Nat → Addr} {FD : Nat → FuncData} {TK : Nat → Tok} {n fuel : Nat}
theorem zyq (T : Txt K mg F FD TK) (hall : ∀ i, FnOk Pg w K mg base CX0 n (F i) (FD i) (zaL i) (spA K (zas U fuel n) i (zdx i))) (cdv : Value) (A : Around) (outer : List PySem.Env) (s : Shared) (H : Hp) (E : XK)
    (hr : Room n (A.deeper (envOfC "is_whole" (zaa (top 8)) s.heap.objs.size (F 0) cdv))) :
    ISs (zcM CX0 Pg w K mg base ["thing", "least", "most"] "is_whole" (zaa (top 8)) (F 0) cdv A outer s H E).nox (zaS (zas U fuel n) fuel ir0) (zag (top 8)) :=
  (zae (ziD (IW.t (zuu (ziW (zlx (t := .bool) zew T.z_isinstance zs9 T.z_bool PyProof.Rows.boot_bool (zaf 0 rfl zic zbc zbd) zs5 zs4 zab zab (zai zab zaj)) (zks _ _) zdd) (znV (ziV (ziW (zlx (t := .int) zew T.z_isinstance zvH T.z_int PyProof.Rows.boot_int (zaf 0 rfl zic zbc zbd) zvC zvB zab zab (zai zab zaj)) (zks _ _) zdd))))) (zae (zbk zpW)
    zar) zar)
    (zae (zbk (zsm ziU ziU (zaf 1 rfl zqx zqv zqw) (zaf 0 rfl zic zbc zbd) (zaf 2 rfl zs8 zs1 zs3)))
    zar))
theorem zyr (T : Txt K mg F FD TK) (hall : ∀ i, FnOk Pg w K mg base CX0 n (F i) (FD i) (zaL i) (spA K (zas U fuel n) i (zdx i))) (cdv : Value) (A : Around) (outer : List PySem.Env) (s : Shared) (H : Hp) (E : XK)
    (hr : Room n (A.deeper (envOfC "is_couple" (zaa (top 9)) s.heap.objs.size (F 1) cdv))) :
    ISs (zcM CX0 Pg w K mg base ["thing"] "is_couple" (zaa (top 9)) (F 1) cdv A outer s H E).nox (zaS (zas U fuel n) fuel ir1) (zag (top 9)) :=
  (zae (zbk (zkp (zlx (t := .tuple) zid T.z_isinstance zqy T.z_tuple PyProof.Rows.boot_tuple (zaf 0 rfl zl3 zbc zbd) zei zeh zab zab (zai zab zaj)) (znU (zgG (zeL hr.units) (zaN zbN zvI T.z_len PySem.boot_len (zad (zaf 0 rfl zl3 zbc zbd) zam zab) zbQ zbP zab zaj) zaq (zbn _)))))
    zar)
theorem zys (T : Txt K mg F FD TK) (hall : ∀ i, FnOk Pg w K mg base CX0 n (F i) (FD i) (zaL i) (spA K (zas U fuel n) i (zdx i))) (cdv : Value) (A : Around) (outer : List PySem.Env) (s : Shared) (H : Hp) (E : XK)
    (hr : Room n (A.deeper (envOfC "is_cell" (zaa (top 10)) s.heap.objs.size (F 2) cdv))) :
    ISs (zcM CX0 Pg w K mg base ["thing"] "is_cell" (zaa (top 10)) (F 2) cdv A outer s H E).nox (zaS (zas U fuel n) fuel ir2) (zag (top 10)) :=
  (zae (zbk (zkp (zau (zap (hall 1) rfl) hr zjV T.m1 T.f1.kp (T.b1) (zad (zaf 0 rfl zie zbc zbd) zam zab) zfa zab zaj) (zkp (zau (zap (hall 0) rfl) hr zgh T.m0 T.f0.kp (T.b0) (zad (zdH hr.units (zaf 0 rfl zie zbc zbd) zaq (fun _ _ => rfl)) (zad zaq (zad (zhD zfj T.c0 ze9) zam zab) zac) zak) zcV zak (zai zac (zai zab zaj))) (znU (zau (zap (hall 0) rfl) hr zgh T.m0 T.f0.kp (T.b0) (zad (zdH hr.units (zaf 0 rfl zie zbc zbd) zaq (fun _ _ => rfl)) (zad zaq (zad (zhD zfj T.c0 ze9) zam zab) zac) zak) zcV zak (zai zac (zai zab zaj)))))))
    zar)
theorem zyt (T : Txt K mg F FD TK) (hall : ∀ i, FnOk Pg w K mg base CX0 n (F i) (FD i) (zaL i) (spA K (zas U fuel n) i (zdx i))) (cdv : Value) (A : Around) (outer : List PySem.Env) (s : Shared) (H : Hp) (E : XK)
    (hr : Room n (A.deeper (envOfC "is_leap" (zaa (top 11)) s.heap.objs.size (F 3) cdv))) :
    ISs (zcM CX0 Pg w K mg base ["thing"] "is_leap" (zaa (top 11)) (F 3) cdv A outer s H E).nox (zaS (zas U fuel n) fuel ir3) (zag (top 11)) :=
  (zae (zbk (zkp (zau (zap (hall 1) rfl) hr zjW T.m1 T.f1.kp (T.b1) (zad (zaf 0 rfl zfF zbc zbd) zam zab) zfa zab zaj) (zkp (zau (zap (hall 0) rfl) hr zgi T.m0 T.f0.kp (T.b0) (zad (zdH hr.units (zaf 0 rfl zfF zbc zbd) zaq (fun _ _ => rfl)) (zad zaq (zad (zhD zgj T.c2 zf8) zam zab) zac) zak) zcV zak (zai zac (zai zab zaj))) (znU (zau (zap (hall 0) rfl) hr zgi T.m0 T.f0.kp (T.b0) (zad (zdH hr.units (zaf 0 rfl zfF zbc zbd) zaq (fun _ _ => rfl)) (zad zaq (zad (zdH hr.units (zaf 0 rfl zfF zbc zbd) zaq (fun _ _ => rfl)) zam zak) zac) zak) zcV zak (zai zac (zai zak zaj)))))))
    zar)
theorem zyu (T : Txt K mg F FD TK) (hall : ∀ i, FnOk Pg w K mg base CX0 n (F i) (FD i) (zaL i) (spA K (zas U fuel n) i (zdx i))) (cdv : Value) (A : Around) (outer : List PySem.Env) (s : Shared) (H : Hp) (E : XK)
    (hr : Room n (A.deeper (envOfC "is_rising" (zaa (top 12)) s.heap.objs.size (F 4) cdv))) :
    ISs (zcM CX0 Pg w K mg base ["cells"] "is_rising" (zaa (top 12)) (F 4) cdv A outer s H E).nox (zaS (zas U fuel n) fuel ir4) (zag (top 12)) :=
  (zae (zbk (zaN (zra rfl) zvK T.z_all (by decide +kernel) (zad (zdL rfl (zc6 (sc := zaa (top 12)) (N := ["cells"]) rfl rfl (by decide +kernel)) (zlv zqA T.z_range (zad zaq (zad (zaN zbN zvJ T.z_len PySem.boot_len (zad (zaf 0 rfl zqz zej zek) zam zab) zbQ zbP zab zaj) zam zao) zac) zac zao) (.inl ⟨rfl, rfl⟩) (fun _ _ _ _ => (zgG (zsh hr.units) (zdH hr.units (zaf 1 rfl (za8 (by decide +kernel)) zej zek) (zb7 zeY (zaf 0 rfl (za6 (by decide +kernel)) zlT zlU) zaq) (fun _ _ => rfl)) (zdH hr.units (zaf 1 rfl (za8 (by decide +kernel)) zej zek) (zaf 0 rfl (za6 (by decide +kernel)) zlT zlU) (fun _ _ => rfl)) (zbn _)))) zam zaM) zru zrt zaM zaj))
    zar)
theorem zyv (T : Txt K mg F FD TK) (hall : ∀ i, FnOk Pg w K mg base CX0 n (F i) (FD i) (zaL i) (spA K (zas U fuel n) i (zdx i))) (cdv : Value) (A : Around) (outer : List PySem.Env) (s : Shared) (H : Hp) (E : XK)
    (hr : Room n (A.deeper (envOfC "is_floor" (zaa (top 13)) s.heap.objs.size (F 5) cdv))) :
    ISs (zcM CX0 Pg w K mg base ["thing"] "is_floor" (zaa (top 13)) (F 5) cdv A outer s H E).nox (zaS (zas U fuel n) fuel ir5) (zag (top 13)) :=
  (zae (ziD (IW.t (zuu (ziV (ziW (zlx (t := .tuple) zig T.z_isinstance zqB T.z_tuple PyProof.Rows.boot_tuple (zaf 0 rfl zfG zbc zbd) zei zeh zab zab (zai zab zaj)) (zks _ _) zdd)) (znV (ziV (zkr rfl rfl ziU ziU zaq (zaN zbN zvM T.z_len PySem.boot_len (zad (zaf 0 rfl zfG zbc zbd) zam zab) zbQ zbP zab zaj) (zhD zif T.c1 zh0)))))) (zae (zbk zpW)
    zar) zar)
    (zae (zbk (zkp (zaN (zra rfl) zvL T.z_all (by decide +kernel) (zad (zdL rfl (zc6 (sc := zaa (top 13)) (N := ["thing"]) rfl rfl (by decide +kernel)) (zbD (zaf 0 rfl zfG zbc zbd)) (.inl ⟨rfl, rfl⟩) (fun _ _ _ _ => (zau (zap (hall 2) rfl) hr (zdg (by decide +kernel)) T.m2 T.f2.kp (T.b2) (zad (zaf 0 rfl (za6 (by decide +kernel)) zs6 zs7) zam zab) zmO zab zaj))) zam zaM) zru zrt zaM zaj) (znU (zau (zap (hall 4) rfl) hr zjX T.m4 T.f4.kp (T.b4) (zad (zaf 0 rfl zfG zbc zbd) zam zab) zjF zab zaj))))
    zar))
theorem zyw (T : Txt K mg F FD TK) (hall : ∀ i, FnOk Pg w K mg base CX0 n (F i) (FD i) (zaL i) (spA K (zas U fuel n) i (zdx i))) (cdv : Value) (A : Around) (outer : List PySem.Env) (s : Shared) (H : Hp) (E : XK)
    (hr : Room n (A.deeper (envOfC "checked" (zaa (top 14)) s.heap.objs.size (F 6) cdv))) :
    ISs (zcM CX0 Pg w K mg base ["floor"] "checked" (zaa (top 14)) (F 6) cdv A outer s H E).nox (zaS (zas U fuel n) fuel ir6) (zag (top 14)) :=
  (zae (ziD (ziV (ziW (zau (zap (hall 5) rfl) hr zkX T.m5 T.f5.kp (T.b5) (zad (zaf 0 rfl zl4 zaD zaE) zam zab) zkR zab zaj) (zhJ _ _) zdd)) (zae zq6
    zar) zar)
    (zae (ziY 0 rfl zl4 zaD zaE)
    zar))
theorem zyx (T : Txt K mg F FD TK) (hall : ∀ i, FnOk Pg w K mg base CX0 n (F i) (FD i) (zaL i) (spA K (zas U fuel n) i (zdx i))) (cdv : Value) (A : Around) (outer : List PySem.Env) (s : Shared) (H : Hp) (E : XK)
    (hr : Room n (A.deeper (envOfC "checked_leap" (zaa (top 15)) s.heap.objs.size (F 7) cdv))) :
    ISs (zcM CX0 Pg w K mg base ["leap"] "checked_leap" (zaa (top 15)) (F 7) cdv A outer s H E).nox (zaS (zas U fuel n) fuel ir7) (zag (top 15)) :=
  (zae (ziD (ziV (ziW (zau (zap (hall 3) rfl) hr zmR T.m3 T.f3.kp (T.b3) (zad (zaf 0 rfl zo6 zaB zaC) zam zab) zmP zab zaj) (zhJ _ _) zdd)) (zae zq6
    zar) zar)
    (zae (ziY 0 rfl zo6 zaB zaC)
    zar))
theorem zyy (T : Txt K mg F FD TK) (hall : ∀ i, FnOk Pg w K mg base CX0 n (F i) (FD i) (zaL i) (spA K (zas U fuel n) i (zdx i))) (cdv : Value) (A : Around) (outer : List PySem.Env) (s : Shared) (H : Hp) (E : XK)
    (hr : Room n (A.deeper (envOfC "folded" (zaa (top 17)) s.heap.objs.size (F 9) cdv))) :
    ISs (zcM CX0 Pg w K mg base ["down", "right"] "folded" (zaa (top 17)) (F 9) cdv A outer s H E).nox (zaS (zas U fuel n) fuel ir9) (zag (top 17)) :=
  (zae (zbk (zbT (zad (zaN (zsi rfl) zvO T.z_min PyProof.Rows.boot_min (zad (zaN zln zl6 T.z_abs (by decide +kernel) (zad (zaf 0 rfl zo7 zoW zoX) zam zab) zlY zlX zab zaj) (zad (zaN zln zl6 T.z_abs (by decide +kernel) (zad (zaf 1 rfl zl5 zlV zlW) zam zab) zlY zlX zab zaj) zam zao) zao) zvE zvD zao (zai zao zaj)) (zad (zaN (zsj rfl) zvN T.z_max PyProof.Rows.boot_max (zad (zaN zln zl6 T.z_abs (by decide +kernel) (zad (zaf 0 rfl zo7 zoW zoX) zam zab) zlY zlX zab zaj) (zad (zaN zln zl6 T.z_abs (by decide +kernel) (zad (zaf 1 rfl zl5 zlV zlW) zam zab) zlY zlX zab zaj) zam zao) zao) zoZ zoY zao (zai zao zaj)) zam zao) zao)))
    zar)
theorem zvQ (T : Txt K mg F FD TK) (hall : ∀ i, FnOk Pg w K mg base CX0 n (F i) (FD i) (zaL i) (spA K (zas U fuel n) i (zdx i))) (cdv : Value) (A : Around) (outer : List PySem.Env) (s : Shared) (H : Hp) (E : XK)
    (hr : Room n (A.deeper (envOfC "are_near" (zaa (top 18)) s.heap.objs.size (F 10) cdv))) :
    ISs (zcM CX0 Pg w K mg base ["leap", "one", "other"] "are_near" (zaa (top 18)) (F 10) cdv A outer s H E).nox (zaS (zas U fuel n) fuel zu4) (zag (top 18)) :=
  (zae (zbk (zgG (zeL hr.units) (zau (zap (hall 9) rfl) hr zmS T.m9 T.f9.kp (T.b9) (zad (zb7 zeY (zdH hr.units (zaf 2 rfl zjY zbe zbf) zaq (fun _ _ => rfl)) (zdH hr.units (zaf 1 rfl zo8 zrv zrw) zaq (fun _ _ => rfl))) (zad (zb7 zeY (zdH hr.units (zaf 2 rfl zjY zbe zbf) zaq (fun _ _ => rfl)) (zdH hr.units (zaf 1 rfl zo8 zrv zrw) zaq (fun _ _ => rfl))) zam zaG) zaG) zo0 zaG (zai zaG zaj)) (zaf 0 rfl zqC zaB zaC) (zbn _)))
    zar)
theorem zvR (T : Txt K mg F FD TK) (hall : ∀ i, FnOk Pg w K mg base CX0 n (F i) (FD i) (zaL i) (spA K (zas U fuel n) i (zdx i))) (cdv : Value) (A : Around) (outer : List PySem.Env) (s : Shared) (H : Hp) (E : XK)
    (hr : Room n (A.deeper (envOfC "cells_near" (zaa (top 19)) s.heap.objs.size (F 11) cdv))) :
    ISs (zcM CX0 Pg w K mg base ["floor", "leap", "cell"] "cells_near" (zaa (top 19)) (F 11) cdv A outer s H E).nox (zaS (zas U fuel n) fuel zu5) (zag (top 19)) :=
  (zae (zbk (zdL rfl (zc6 (sc := zaa (top 19)) (N := ["floor", "leap", "cell"]) rfl rfl (by decide +kernel)) (zbD (zaf 0 rfl zo9 zaD zaE)) (.inr ⟨_, rfl, fun _ _ _ _ => (ziW (zau (zap (hall 10) rfl) hr (zdg (by decide +kernel)) T.m10 T.f10.kp (T.b10) (zad (zaf 2 rfl (za8 (by decide +kernel)) zaB zaC) (zad (zaf 3 rfl (za8 (by decide +kernel)) zaQ zaR) (zad (zaf 0 rfl (za6 (by decide +kernel)) zbe zbf) zam zab) zab) zab) zkS zab (zai zab (zai zab zaj))) (zhJ _ _) zdd)⟩) (fun _ _ _ _ => (zaf 0 rfl (za6 (by decide +kernel)) zbe zbf))))
    zar)
theorem zvS (T : Txt K mg F FD TK) (hall : ∀ i, FnOk Pg w K mg base CX0 n (F i) (FD i) (zaL i) (spA K (zas U fuel n) i (zdx i))) (cdv : Value) (A : Around) (outer : List PySem.Env) (s : Shared) (H : Hp) (E : XK)
    (hr : Room n (A.deeper (envOfC "_law_cell" (zaa (top 39)) s.heap.objs.size (F 13) cdv))) :
    ISs (zcM CX0 Pg w K mg base ["_law_script", "_law_k"] "_law_cell" (zaa (top 39)) (F 13) cdv A outer s H E).nox (zaS (zas U fuel n) fuel zu6) (zag (top 39)) :=
  (zae (ziD (zb8 rfl (zsh hr.units) (zaf 1 rfl zhn zjK zjL) (zaN zbN zta T.z_len PySem.boot_len (zad (zaf 0 rfl zdp zaY zaZ) zam zab) zbQ zbP zab zaj) (zbn _)) (zae (zbk (zdH hr.units (zaf 0 rfl zdp zaY zaZ) (zaf 1 rfl zhn zjK zjL) (fun _ _ => rfl)))
    zar) zar)
    (zae (zbk zaq)
    zar))
theorem zvT (T : Txt K mg F FD TK) (hall : ∀ i, FnOk Pg w K mg base CX0 n (F i) (FD i) (zaL i) (spA K (zas U fuel n) i (zdx i))) (cdv : Value) (A : Around) (outer : List PySem.Env) (s : Shared) (H : Hp) (E : XK)
    (hr : Room n (A.deeper (envOfC "_law_mix" (zaa (top 40)) s.heap.objs.size (F 14) cdv))) :
    ISs (zcM CX0 Pg w K mg base ["_law_cell_here", "_law_prime", "_law_many"] "_law_mix" (zaa (top 40)) (F 14) cdv A outer s H E).nox (zaS (zas U fuel n) fuel zu7) (zag (top 40)) :=
  (zae (zbk (zb7 zdG (zb7 zdG (zb7 zfQ (zaf 0 rfl zex zaV zaW) zaq) (zaf 1 rfl zgN zh7 zh8)) (zaf 2 rfl zih zbw zbx)))
    zar)
theorem zvU (T : Txt K mg F FD TK) (hall : ∀ i, FnOk Pg w K mg base CX0 n (F i) (FD i) (zaL i) (spA K (zas U fuel n) i (zdx i))) (cdv : Value) (A : Around) (outer : List PySem.Env) (s : Shared) (H : Hp) (E : XK)
    (hr : Room n (A.deeper (envOfC "_law_floor" (zaa (top 41)) s.heap.objs.size (F 15) cdv))) :
    ISs (zcM CX0 Pg w K mg base ["_law_script", "_law_at", "_law_most", "_law_cell_here", "_law_rows", "_law_wide", "_law_down", "_law_right", "_law_way", "_law_found", "_law_r", "_law_c", "_law_seed"] "_law_floor" (zaa (top 41)) (F 15) cdv A outer s H E).nox (zaS (zas U fuel n) fuel zu8) (zag (top 41)) :=
  (zae (zbq 3 zna.nd rfl zeB (zau (zap (hall 13) rfl) hr zcc T.m13 T.f13.kp (T.b13) (zad (zaf 0 rfl zbI zaY zaZ) (zad (zaf 1 rfl zc1 zce zcf) zam zab) zab) zby zab (zai zab zaj)))
    (zae (zbq 4 zna.nd rfl zin (zb7 zbC zaq (zau (zap (hall 14) rfl) hr zbz T.m14 T.f14.kp (T.b14) (zad (zaf 3 rfl zbJ zaV zaW) (zad zaq (zad zaq zam zac) zac) zab) zbY zab (zai zac (zai zac zaj)))))
    (zae (zbq 5 zna.nd rfl zim (zb7 zbC zaq (zau (zap (hall 14) rfl) hr zbz T.m14 T.f14.kp (T.b14) (zad (zaf 3 rfl zbJ zaV zaW) (zad zaq (zad zaq zam zac) zac) zab) zbY zab (zai zac (zai zac zaj)))))
    (zae (zbq 6 zna.nd rfl zil (zau (zap (hall 14) rfl) hr zbz T.m14 T.f14.kp (T.b14) (zad (zau (zap (hall 13) rfl) hr zcc T.m13 T.f13.kp (T.b13) (zad (zaf 0 rfl zbI zaY zaZ) (zad (zb7 zbC (zaf 1 rfl zc1 zce zcf) zaq) zam zaG) zab) zby zab (zai zaG zaj)) (zad zaq (zad (zb7 zeY zaq (zaf 4 rfl zez zfd zfe)) zam zaG) zac) zao) zbY zao (zai zac (zai zaG zaj))))
    (zae (zbq 7 zna.nd rfl zgO (zau (zap (hall 14) rfl) hr zbz T.m14 T.f14.kp (T.b14) (zad (zau (zap (hall 13) rfl) hr zcc T.m13 T.f13.kp (T.b13) (zad (zaf 0 rfl zbI zaY zaZ) (zad (zb7 zbC (zaf 1 rfl zc1 zce zcf) zaq) zam zaG) zab) zby zab (zai zaG zaj)) (zad zaq (zad (zb7 zeY zaq (zaf 5 rfl zeA zff zfg)) zam zaG) zac) zao) zbY zao (zai zac (zai zaG zaj))))
    (zae (zbq 8 zna.nd rfl zjZ (zau (zap (hall 14) rfl) hr zbz T.m14 T.f14.kp (T.b14) (zad (zb7 zbC (zaf 3 rfl zbJ zaV zaW) zaq) (zad zaq (zad zaq zam zac) zac) zaG) zbY zaG (zai zac (zai zac zaj))))
    (zae (zbq 9 zna.nd rfl zdP (zfR zam))
    (zae (zmu 10 PassesOwn.never rfl zna.nd rfl zmU (zlu zj0 T.z_range (zad (zaf 4 rfl zez zfd zfe) zam zab) zab) (zae (zmu 11 PassesOwn.never rfl zna.nd rfl zmT (zlu zj0 T.z_range (zad (zaf 5 rfl zeA zff zfg) zam zab) zab) (zae (zbq 12 zna.nd rfl zik (zb7 zbC (zb7 zbC (zau (zap (hall 13) rfl) hr zcc T.m13 T.f13.kp (T.b13) (zad (zaf 0 rfl zbI zaY zaZ) (zad (zb7 zbC (zb7 zbC (zaf 1 rfl zc1 zce zcf) zaq) (zb7 zdG (zb7 zbC (zaf 10 rfl zdB zeu zev) (zb7 zfQ zaq (zaf 11 rfl zdA zes zet))) zaq)) zam zaG) zab) zby zab (zai zaG zaj)) (zb7 zfQ (zb7 zfQ zaq (zaf 10 rfl zdB zeu zev)) (zaf 10 rfl zdB zeu zev))) (zb7 zfQ (zb7 zfQ zaq (zaf 11 rfl zdA zes zet)) (zaf 11 rfl zdA zes zet))))
    (zae (ziD (IW.t (zuu (zb8 rfl (zeL hr.units) (zaf 8 rfl zfk zge zgf) zaq (zbn _)) (znV (zb8 rfl znO (zau (zap (hall 14) rfl) hr zbz T.m14 T.f14.kp (T.b14) (zad (zaf 12 rfl zij zjO zjP) (zad zaq (zad (zdH hr.units (zfR (zad zaq (zad zaq (zad zaq zam zac) zac) zac)) (zb7 zeY (zaf 8 rfl zfk zge zgf) zaq) (fun _ _ => rfl)) zam zak) zac) zab) zbY zab (zai zac (zai zak zaj))) zaq (zbn _))))) (zae (zn0 9 rfl zcv (zbT (zad (zb7 zbC (zaf 6 rfl zey zfb zfc) (zaf 10 rfl zdB zeu zev)) (zad (zb7 zbC (zaf 7 rfl zdO zeq zer) (zaf 11 rfl zdA zes zet)) zam zaG) zaG)) zaF zcX zcY)
    zar) zar)
    zar)))
    zar))
    (zae (ziD (ziV (ziW (zaf 9 rfl zcv zcX zcY) (zuv _) zsk)) (zae (zbq 9 zna.nd rfl zdP (zfR (zad (zbT (zad (zaf 6 rfl zey zfb zfc) (zad (zaf 7 rfl zdO zeq zer) zam zab) zab)) zam zaF)))
    zar) zar)
    (zae (zbk (zhF zhA zpa T.z_tuple PyProof.Rows.boot_tuple (zad (zsr (zaf 9 rfl zcv zcX zcY) (zaf 2 rfl zii zjM zjN)) zam zak) zei zeh zak zaj))
    zar))))))))))
theorem zvV (T : Txt K mg F FD TK) (hall : ∀ i, FnOk Pg w K mg base CX0 n (F i) (FD i) (zaL i) (spA K (zas U fuel n) i (zdx i))) (cdv : Value) (A : Around) (outer : List PySem.Env) (s : Shared) (H : Hp) (E : XK)
    (hr : Room n (A.deeper (envOfC "_law_leap" (zaa (top 42)) s.heap.objs.size (F 16) cdv))) :
    ISs (zcM CX0 Pg w K mg base ["_law_cell_here", "_law_some"] "_law_leap" (zaa (top 42)) (F 16) cdv A outer s H E).nox (zaS (zas U fuel n) fuel zu9) (zag (top 42)) :=
  (zae (zbq 1 zyY.nd rfl ziq (zfR (zad (zbT (zad zaq (zad zaq zam zac) zac)) (zad (zbT (zad zaq (zad zaq zam zac) zac)) (zad (zbT (zad zaq (zad zaq zam zac) zac)) (zad (zbT (zad zaq (zad zaq zam zac) zac)) (zad (zbT (zad zaq (zad zaq zam zac) zac)) (zad (zbT (zad zaq (zad zaq zam zac) zac)) (zad (zbT (zad zaq (zad zaq zam zac) zac)) (zad (zbT (zad zaq (zad zaq zam zac) zac)) (zad (zbT (zad zaq (zad zaq zam zac) zac)) (zad (zbT (zad zaq (zad zaq zam zac) zac)) (zad (zbT (zad zaq (zad zaq zam zac) zac)) (zad (zbT (zad zaq (zad zaq zam zac) zac)) (zad (zbT (zad zaq (zad zaq zam zac) zac)) zam zaF) zaF) zaF) zaF) zaF) zaF) zaF) zaF) zaF) zaF) zaF) zaF) zaF)))
    (zae (zbk (zdH hr.units (zb7 zbC (zaf 1 rfl zio zjQ zjR) (zfR (zad (zbT (zad zaq (zad zaq zam zac) zac)) (zad (zbT (zad zaq (zad zaq zam zac) zac)) (zad (zbT (zad zaq (zad zaq zam zac) zac)) (zad (zbT (zad zaq (zad zaq zam zac) zac)) (zad (zbT (zad zaq (zad zaq zam zac) zac)) (zad (zbT (zad zaq (zad zaq zam zac) zac)) zam zaF) zaF) zaF) zaF) zaF) zaF))) (zb7 zdG (zaf 0 rfl zeC zaV zaW) zaq) (fun _ _ => rfl)))
    zar))
theorem zvW (T : Txt K mg F FD TK) (hall : ∀ i, FnOk Pg w K mg base CX0 n (F i) (FD i) (zaL i) (spA K (zas U fuel n) i (zdx i))) (cdv : Value) (A : Around) (outer : List PySem.Env) (s : Shared) (H : Hp) (E : XK)
    (hr : Room n (A.deeper (envOfC "leads_to" (zaa (top 20)) s.heap.objs.size (F 20) cdv))) :
    ISs (zcM CX0 Pg w K mg base ["floor", "leap", "goal", "leads", "edge", "further", "cell", "other"] "leads_to" (zaa (top 20)) (F 20) cdv A outer s H E).nox (zaS (zas U fuel n) fuel zva) (zag (top 20)) :=
  (zae (zbq 3 ztb.nd rfl zpd (zuA hr.units (zaf 2 rfl zl9 zo1 zo2) zxM))
    (zae (zbq 4 ztb.nd rfl zma (zfR (zad (zaf 2 rfl zl9 zo1 zo2) zam zab)))
    (zae (zn3 PassesOwn.never (zb8 rfl znO (zaN zbN ztc T.z_len PySem.boot_len (zad (zaf 4 rfl zl7 zh1 zh2) zam zab) zbQ zbP zab zaj) zaq (zbn _)) (zae (zbq 5 ztb.nd rfl zkY (zfR zam))
    (zae (zn2 6 4 PassesOwn.never rfl ztb.nd rfl zqE rfl zl7 (zae (zmu 7 PassesOwn.never rfl ztb.nd rfl zpc (zbD (zau (zap (hall 11) rfl) hr zgP T.m11 T.f11.kp (T.b11) (zad (zaf 0 rfl zpb zaD zaE) (zad (zaf 1 rfl zqD zaB zaC) (zad (zaf 6 rfl zl8 zaQ zaR) zam zab) zab) zab) zcW zab (zai zab (zai zab zaj)))) (zae (ziD (zb8 rfl (zeZ hr.units) (zaf 7 rfl zgm zbe zbf) (zaf 3 rfl zgk zel zem) (by with_unfolding_all rfl)) (zae (zlA 3 hr.units rfl zgk (zaf 7 rfl zgm zbe zbf) (zaf 6 rfl zl8 zaQ zaR) zel zem)
    (zae (zn0 5 rfl zgl (zaf 7 rfl zgm zbe zbf) zab zcI zcJ)
    zar)) zar)
    zar))
    zar) (hd := zh1) (hcd := zh2))
    (zae (zsn 4 5 ztb.nd rfl zma rfl zgl (hd := zcI) (hcd := zcJ))
    zar))))
    (zae (ziY 3 rfl zgk zel zem)
    zar))))
theorem zvX (T : Txt K mg F FD TK) (hall : ∀ i, FnOk Pg w K mg base CX0 n (F i) (FD i) (zaL i) (spA K (zas U fuel n) i (zdx i))) (cdv : Value) (A : Around) (outer : List PySem.Env) (s : Shared) (H : Hp) (E : XK)
    (hr : Room n (A.deeper (envOfC "greatest_divisor" (zaa (top 22)) s.heap.objs.size (F 21) cdv))) :
    ISs (zcM CX0 Pg w K mg base ["leap"] "greatest_divisor" (zaa (top 22)) (F 21) cdv A outer s H E).nox (zaS (zas U fuel n) fuel zvb) (zag (top 22)) :=
  (zae (zbk (zaN (zog rfl) ztd T.z_max PyProof.Rows.boot_max (zad (zdL rfl (zc6 (sc := zaa (top 22)) (N := ["leap"]) rfl rfl (by decide +kernel)) (zlv zpe T.z_range (zad zaq (zad (zb7 zbC (zdH hr.units (zaf 0 rfl zqF zaB zaC) zaq (fun _ _ => rfl)) zaq) zam zaG) zac) zac zaG) (.inr ⟨_, rfl, fun _ _ _ _ => (IW.t (zut (zb8 rfl (zeL hr.units) (zb7 zdG (zdH hr.units (zaf 1 rfl (za8 (by decide +kernel)) zaB zaC) zaq (fun _ _ => rfl)) (zaf 0 rfl (za6 (by decide +kernel)) zf9 zga)) zaq (zbn _)) (zq5 (zb8 rfl (zeL hr.units) (zb7 zdG (zdH hr.units (zaf 1 rfl (za8 (by decide +kernel)) zaB zaC) zaq (fun _ _ => rfl)) (zaf 0 rfl (za6 (by decide +kernel)) zf9 zga)) zaq (zbn _)))))⟩) (fun _ _ _ _ => (zaf 0 rfl (za6 (by decide +kernel)) zf9 zga))) zam zaM) zoZ zoY zaM zaj))
    zar)
theorem zvY (T : Txt K mg F FD TK) (hall : ∀ i, FnOk Pg w K mg base CX0 n (F i) (FD i) (zaL i) (spA K (zas U fuel n) i (zdx i))) (cdv : Value) (A : Around) (outer : List PySem.Env) (s : Shared) (H : Hp) (E : XK)
    (hr : Room n (A.deeper (envOfC "has_odd_sum" (zaa (top 23)) s.heap.objs.size (F 22) cdv))) :
    ISs (zcM CX0 Pg w K mg base ["leap", "divisor"] "has_odd_sum" (zaa (top 23)) (F 22) cdv A outer s H E).nox (zaS (zas U fuel n) fuel zvc) (zag (top 23)) :=
  (zae (zbq 1 zyZ.nd rfl zkZ (zau (zap (hall 21) rfl) hr zdC T.m21 T.f21.kp (T.b21) (zad (zaf 0 rfl zir zaB zaC) zam zab) zck zab zaj))
    (zae (zbk (zgG (zeL hr.units) (zb7 zdG (zb7 zbC (zb7 zhz (zdH hr.units (zaf 0 rfl zir zaB zaC) zaq (fun _ _ => rfl)) (zaf 1 rfl zgn zdy zdz)) (zb7 zhz (zdH hr.units (zaf 0 rfl zir zaB zaC) zaq (fun _ _ => rfl)) (zaf 1 rfl zgn zdy zdz))) zaq) zaq (zbn _)))
    zar))
theorem zvZ (T : Txt K mg F FD TK) (hall : ∀ i, FnOk Pg w K mg base CX0 n (F i) (FD i) (zaL i) (spA K (zas U fuel n) i (zdx i))) (cdv : Value) (A : Around) (outer : List PySem.Env) (s : Shared) (H : Hp) (E : XK)
    (hr : Room n (A.deeper (envOfC "hue_of" (zaa (top 24)) s.heap.objs.size (F 23) cdv))) :
    ISs (zcM CX0 Pg w K mg base ["leap", "cell", "divisor", "row", "column"] "hue_of" (zaa (top 24)) (F 23) cdv A outer s H E).nox (zaS (zas U fuel n) fuel zvd) (zag (top 24)) :=
  (zae (zbq 2 zw6.nd rfl zk0 (zau (zap (hall 21) rfl) hr zdD T.m21 T.f21.kp (T.b21) (zad (zaf 0 rfl zmb zaB zaC) zam zab) zck zab zaj))
    (zae (zbq 3 zw6.nd rfl zte (zb7 zhz (zdH hr.units (zaf 1 rfl zmc zaQ zaR) zaq (fun _ _ => rfl)) (zaf 2 rfl zgo zdy zdz)))
    (zae (zbq 4 zw6.nd rfl zmW (zb7 zhz (zdH hr.units (zaf 1 rfl zmc zaQ zaR) zaq (fun _ _ => rfl)) (zaf 2 rfl zgo zdy zdz)))
    (zae (ziD (ziW (zau (zap (hall 22) rfl) hr zgp T.m22 T.f22.kp (T.b22) (zad (zaf 0 rfl zmb zaB zaC) zam zab) zgL zab zaj) (zhJ _ _) zdd) (zae (zbk (zb7 zdG (zb7 zbC (zaf 3 rfl zpf zrx zry) (zaf 4 rfl zmV zo3 zo4)) zaq))
    zar) zar)
    (zae (zbk (zb7 zdG (zaf 3 rfl zpf zrx zry) zaq))
    zar)))))
theorem zv0 (T : Txt K mg F FD TK) (hall : ∀ i, FnOk Pg w K mg base CX0 n (F i) (FD i) (zaL i) (spA K (zas U fuel n) i (zdx i))) (cdv : Value) (A : Around) (outer : List PySem.Env) (s : Shared) (H : Hp) (E : XK)
    (hr : Room n (A.deeper (envOfC "cells_of_hue" (zaa (top 25)) s.heap.objs.size (F 24) cdv))) :
    ISs (zcM CX0 Pg w K mg base ["floor", "leap", "hue"] "cells_of_hue" (zaa (top 25)) (F 24) cdv A outer s H E).nox (zaS (zas U fuel n) fuel zve) (zag (top 25)) :=
  (zae (zbk (zdL rfl (zc6 (sc := zaa (top 25)) (N := ["floor", "leap", "hue"]) rfl rfl (by decide +kernel)) (zbD (zaf 0 rfl zpg zaD zaE)) (.inr ⟨_, rfl, fun _ _ _ _ => (zb8 rfl (zeL hr.units) (zau (zap (hall 23) rfl) hr (zdg (by decide +kernel)) T.m23 T.f23.kp (T.b23) (zad (zaf 2 rfl (za8 (by decide +kernel)) zaB zaC) (zad (zaf 0 rfl (za6 (by decide +kernel)) zaQ zaR) zam zab) zab) zgb zab (zai zab zaj)) (zaf 3 rfl (za8 (by decide +kernel)) zrz zrA) (zbn _))⟩) (fun _ _ _ _ => (zaf 0 rfl (za6 (by decide +kernel)) zaQ zaR))))
    zar)
theorem zv1 (T : Txt K mg F FD TK) (hall : ∀ i, FnOk Pg w K mg base CX0 n (F i) (FD i) (zaL i) (spA K (zas U fuel n) i (zdx i))) (cdv : Value) (A : Around) (outer : List PySem.Env) (s : Shared) (H : Hp) (E : XK)
    (hr : Room n (A.deeper (envOfC "hues_of" (zaa (top 27)) s.heap.objs.size (F 25) cdv))) :
    ISs (zcM CX0 Pg w K mg base ["floor", "leap"] "hues_of" (zaa (top 27)) (F 25) cdv A outer s H E).nox (zaS (zas U fuel n) fuel zvf) (zag (top 27)) :=
  (zae (zdI (zau (zap (hall 6) rfl) hr zk1 T.m6 T.f6.kp (T.b6) (zad (zaf 0 rfl zgq zaD zaE) zam zab) zcK zab zaj))
    (zae (zdI (zau (zap (hall 7) rfl) hr zfp T.m7 T.f7.kp (T.b7) (zad (zaf 1 rfl zis zaB zaC) zam zab) zbp zab zaj))
    (zae (zbk (zfR (zad (zau (zap (hall 24) rfl) hr zc8 T.m24 T.f24.kp (T.b24) (zad (zaf 0 rfl zgq zaD zaE) (zad (zaf 1 rfl zis zaB zaC) (zad zaq zam zac) zab) zab) zbH zab (zai zab (zai zac zaj))) (zad (zau (zap (hall 24) rfl) hr zc8 T.m24 T.f24.kp (T.b24) (zad (zaf 0 rfl zgq zaD zaE) (zad (zaf 1 rfl zis zaB zaC) (zad zaq zam zac) zab) zab) zbH zab (zai zab (zai zac zaj))) zam zao) zao)))
    zar)))
theorem zv2 (T : Txt K mg F FD TK) (hall : ∀ i, FnOk Pg w K mg base CX0 n (F i) (FD i) (zaL i) (spA K (zas U fuel n) i (zdx i))) (cdv : Value) (A : Around) (outer : List PySem.Env) (s : Shared) (H : Hp) (E : XK)
    (hr : Room n (A.deeper (envOfC "parts_within" (zaa (top 21)) s.heap.objs.size (F 30) cdv))) :
    ISs (zcM CX0 Pg w K mg base ["cells", "leap", "parts", "placed", "cell", "leads"] "parts_within" (zaa (top 21)) (F 30) cdv A outer s H E).nox (zaS (zas U fuel n) fuel zvg) (zag (top 21)) :=
  (zae (zbq 2 zvP.nd rfl zpi (zfR zam))
    (zae (zbq 3 zvP.nd rfl zmX (zrb true))
    (zae (zn2 4 0 PassesOwn.never rfl zvP.nd rfl zqH rfl zj3 (zae (ziD (zb8 rfl (zeZ hr.units) (zaf 4 rfl zmd zaQ zaR) (zaf 3 rfl zho zjG zjH) (by with_unfolding_all rfl)) (zae (zbq 5 zvP.nd rfl zph (zau (zap (hall 20) rfl) hr zj4 T.m20 T.f20.kp (T.b20) (zad (zaf 0 rfl zj3 zej zek) (zad (zaf 1 rfl zqG zaB zaC) (zad (zaf 4 rfl zmd zaQ zaR) zam zab) zab) zab) zkT zab (zai zab (zai zab zaj))))
    (zae (zuF 3 5 hr.units rfl zho rfl zj2 zab zjG zjH zel zem)
    (zae (zn0 2 rfl zj1 (zsA rfl zmY T.z_sorted (zaf 5 rfl zj2 zel zem) (hst := zao)) zao zlZ zl0)
    zar))) zar)
    zar) (hd := zej) (hcd := zek))
    (zae (ziY 2 rfl zj1 zlZ zl0)
    zar))))
theorem zv3 (T : Txt K mg F FD TK) (hall : ∀ i, FnOk Pg w K mg base CX0 n (F i) (FD i) (zaL i) (spA K (zas U fuel n) i (zdx i))) (cdv : Value) (A : Around) (outer : List PySem.Env) (s : Shared) (H : Hp) (E : XK)
    (hr : Room n (A.deeper (envOfC "parts_of" (zaa (top 26)) s.heap.objs.size (F 31) cdv))) :
    ISs (zcM CX0 Pg w K mg base ["floor", "leap"] "parts_of" (zaa (top 26)) (F 31) cdv A outer s H E).nox (zaS (zas U fuel n) fuel zvh) (zag (top 26)) :=
  (zae (zdI (zau (zap (hall 6) rfl) hr zk2 T.m6 T.f6.kp (T.b6) (zad (zaf 0 rfl zj5 zaD zaE) zam zab) zcK zab zaj))
    (zae (zdI (zau (zap (hall 7) rfl) hr zfr T.m7 T.f7.kp (T.b7) (zad (zaf 1 rfl zme zaB zaC) zam zab) zbp zab zaj))
    (zae (zbk (zau (zap (hall 30) rfl) hr zfq T.m30 T.f30.kp (T.b30) (zad (zaf 0 rfl zj5 zaD zaE) (zad (zaf 1 rfl zme zaB zaC) zam zab) zab) zgc zab (zai zab zaj)))
    zar)))
theorem zv4 (T : Txt K mg F FD TK) (hall : ∀ i, FnOk Pg w K mg base CX0 n (F i) (FD i) (zaL i) (spA K (zas U fuel n) i (zdx i))) (cdv : Value) (A : Around) (outer : List PySem.Env) (s : Shared) (H : Hp) (E : XK)
    (hr : Room n (A.deeper (envOfC "finds_mate" (zaa (top 29)) s.heap.objs.size (F 37) cdv))) :
    ISs (zcM CX0 Pg w K mg base ["floor", "leap", "mates", "cell", "tried", "other"] "finds_mate" (zaa (top 29)) (F 37) cdv A outer s H E).nox (zaS (zas U fuel n) fuel zts) (zag (top 29)) :=
  (zae (zmu 5 PassesOwn.never rfl zy0.nd rfl zpj (zbD (zau (zap (hall 11) rfl) hr zgQ T.m11 T.f11.kp (T.b11) (zad (zaf 0 rfl zj6 zaD zaE) (zad (zaf 1 rfl zmf zaB zaC) (zad (zaf 3 rfl zit zaQ zaR) zam zab) zab) zab) zcW zab (zai zab (zai zab zaj)))) (zae (ziD (zb8 rfl (zeZ hr.units) (zaf 5 rfl zcL zbe zbf) (zaf 4 rfl zgr zh3 zh4) (by with_unfolding_all rfl)) (zae (zlA 4 hr.units rfl zgr (zaf 5 rfl zcL zbe zbf) zpW zh3 zh4)
    (zae (zxO (zb8 rfl (zeZ hr.units) (zaf 5 rfl zcL zbe zbf) (zaf 2 rfl zdq zbi zbj) (by with_unfolding_all rfl)) (zrf (hall 37) rfl (by decide) (by decide) hr zgR T.m37 T.f37.kp (T.b37) (ztm (zaf 0 rfl zj6 zaD zaE) (ztm (zaf 1 rfl zmf zaB zaC) (zxN 2 rfl zdq (ztm (zdH hr.units (zaf 2 rfl zdq zbi zbj) (zaf 5 rfl zcL zbe zbf) (fun _ _ => rfl)) (zxN 4 rfl zgr zrd zh3 zh4) zak) zbi zbj) zab) zab) zen zab (zai zab (zai zab (zai zak (zai zab zaj))))) zdd (zae (zlA 2 hr.units rfl zdq (zaf 3 rfl zit zaQ zaR) (zaf 5 rfl zcL zbe zbf) zbi zbj)
    (zae (zlA 2 hr.units rfl zdq (zaf 5 rfl zcL zbe zbf) (zaf 3 rfl zit zaQ zaR) zbi zbj)
    (zae (zbk zpW)
    zar))) zar)
    zar)) zar)
    zar))
    (zae (zbk zpW)
    zar))
theorem zv5 (T : Txt K mg F FD TK) (hall : ∀ i, FnOk Pg w K mg base CX0 n (F i) (FD i) (zaL i) (spA K (zas U fuel n) i (zdx i))) (cdv : Value) (A : Around) (outer : List PySem.Env) (s : Shared) (H : Hp) (E : XK)
    (hr : Room n (A.deeper (envOfC "all_mates" (zaa (top 30)) s.heap.objs.size (F 38) cdv))) :
    ISs (zcM CX0 Pg w K mg base ["floor", "leap", "mates", "cell"] "all_mates" (zaa (top 30)) (F 38) cdv A outer s H E).nox (zaS (zas U fuel n) fuel zvi) (zag (top 30)) :=
  (zae (zbq 2 zyp.nd rfl zpk (zrb true))
    (zae (zmu 3 PassesOwn.never rfl zyp.nd rfl zqJ (zbD (zau (zap (hall 24) rfl) hr zfs T.m24 T.f24.kp (T.b24) (zad (zaf 0 rfl zj8 zaD zaE) (zad (zaf 1 rfl zmg zaB zaC) (zad zaq zam zac) zab) zab) zbH zab (zai zab (zai zac zaj)))) (zae (zsu (zrf (hall 37) rfl (by decide) (by decide) hr zgS T.m37 T.f37.kp (T.b37) (ztm (zaf 0 rfl zj8 zaD zaE) (ztm (zaf 1 rfl zmg zaB zaC) (zxN 2 rfl zj7 (ztm (zaf 3 rfl zqI zaQ zaR) (zzu true zrd) zab) zbi zbj) zab) zab) zen zab (zai zab (zai zab (zai zab (zai znR zaj))))))
    zar))
    (zae (ziY 2 rfl zj7 zbi zbj)
    zar)))
theorem zv6 (T : Txt K mg F FD TK) (hall : ∀ i, FnOk Pg w K mg base CX0 n (F i) (FD i) (zaL i) (spA K (zas U fuel n) i (zdx i))) (cdv : Value) (A : Around) (outer : List PySem.Env) (s : Shared) (H : Hp) (E : XK)
    (hr : Room n (A.deeper (envOfC "pairs_of" (zaa (top 31)) s.heap.objs.size (F 39) cdv))) :
    ISs (zcM CX0 Pg w K mg base ["floor", "mates"] "pairs_of" (zaa (top 31)) (F 39) cdv A outer s H E).nox (zaS (zas U fuel n) fuel zvj) (zag (top 31)) :=
  (zae (zbk (zdL rfl (zc6 (sc := zaa (top 31)) (N := ["floor", "mates"]) rfl rfl (by decide +kernel)) (zbD (zaf 0 rfl zpl zaD zaE)) (.inr ⟨_, rfl, fun _ _ _ _ => (IW.t (zut (zb8 rfl (zur hr.units) (zaf 0 rfl (za6 (by decide +kernel)) zaQ zaR) (zaf 2 rfl (za8 (by decide +kernel)) zbi zbj) (by with_unfolding_all rfl)) (zq5 (zb8 rfl (zsh hr.units) (zaf 0 rfl (za6 (by decide +kernel)) zaQ zaR) (zdH hr.units (zaf 2 rfl (za8 (by decide +kernel)) zbi zbj) (zaf 0 rfl (za6 (by decide +kernel)) zaQ zaR) (fun _ _ => rfl)) (zbn _)))))⟩) (fun _ _ _ _ => (zbT (zad (zaf 0 rfl (za6 (by decide +kernel)) zaQ zaR) (zad (zdH hr.units (zaf 2 rfl (za8 (by decide +kernel)) zbi zbj) (zaf 0 rfl (za6 (by decide +kernel)) zaQ zaR) (fun _ _ => rfl)) zam zak) zab)))))
    zar)
theorem zv7 (T : Txt K mg F FD TK) (hall : ∀ i, FnOk Pg w K mg base CX0 n (F i) (FD i) (zaL i) (spA K (zas U fuel n) i (zdx i))) (cdv : Value) (A : Around) (outer : List PySem.Env) (s : Shared) (H : Hp) (E : XK)
    (hr : Room n (A.deeper (envOfC "crowd_and_around" (zaa (top 32)) s.heap.objs.size (F 40) cdv))) :
    ISs (zcM CX0 Pg w K mg base ["floor", "leap", "mates", "hue", "crowd", "around", "edge", "further", "cell", "other"] "crowd_and_around" (zaa (top 32)) (F 40) cdv A outer s H E).nox (zaS (zas U fuel n) fuel zvk) (zag (top 32)) :=
  (zae (zq9 4 rfl zqK.nd rfl zm0 (zc6 (sc := zaa (top 32)) (N := ["floor", "leap", "mates", "hue", "crowd", "around", "edge", "further", "cell", "other"]) rfl rfl (by decide +kernel)) (zbD (zau (zap (hall 24) rfl) hr zft T.m24 T.f24.kp (T.b24) (zad (zaf 0 rfl zj9 zaD zaE) (zad (zaf 1 rfl zmi zaB zaC) (zad (zaf 3 rfl ztf zrz zrA) zam zab) zab) zab) zbH zab (zai zab (zai zab zaj)))) (.inr ⟨_, rfl, fun _ _ _ _ => (zb8 rfl (zeZ hr.units) (zaf 0 rfl (za6 (by decide +kernel)) zaQ zaR) (zaf 3 rfl (za8 (by decide +kernel)) zbi zbj) (by with_unfolding_all rfl))⟩) (fun _ _ _ _ => (zaf 0 rfl (za6 (by decide +kernel)) zaQ zaR)) (hsw := (zoe (sc := zaa (top 32)) rfl (by decide +kernel))))
    (zae (zbq 5 zqK.nd rfl zmZ (zfR zam))
    (zae (zsn 6 4 zqK.nd rfl zmj rfl zgs (hd := zfD) (hcd := zfE))
    (zae (zn3 PassesOwn.never (zb8 rfl znO (zaN zbN ztg T.z_len PySem.boot_len (zad (zaf 6 rfl zmh zh1 zh2) zam zab) zbQ zbP zab zaj) zaq (zbn _)) (zae (zbq 7 zqK.nd rfl zk3 (zfR zam))
    (zae (zn2 8 6 PassesOwn.never rfl zqK.nd rfl zqM rfl zmh (zae (zmu 9 PassesOwn.never rfl zqK.nd rfl zpo (zbD (zau (zap (hall 11) rfl) hr zgT T.m11 T.f11.kp (T.b11) (zad (zaf 0 rfl zj9 zaD zaE) (zad (zaf 1 rfl zmi zaB zaC) (zad (zaf 8 rfl zqL zaQ zaR) zam zab) zab) zab) zcW zab (zai zab (zai zab zaj)))) (zae (ziD (zb8 rfl (zeZ hr.units) (zaf 9 rfl zgt zbe zbf) (zaf 5 rfl zeV zeo zep) (by with_unfolding_all rfl)) (zae (zn0 5 rfl zeV (zaf 9 rfl zgt zbe zbf) zab zeo zep)
    (zae (zn0 7 rfl zd1 (zdH hr.units (zaf 2 rfl zpm zbi zbj) (zaf 9 rfl zgt zbe zbf) (fun _ _ => rfl)) zak zcI zcJ)
    zar)) zar)
    zar))
    zar) (hd := zh1) (hcd := zh2))
    (zae (zbq 4 zqK.nd rfl zpn (zb7 zbC (zaf 4 rfl zgs zfD zfE) (zaf 7 rfl zd1 zcI zcJ)))
    (zae (zsn 6 7 zqK.nd rfl zmj rfl zd1 (hd := zcI) (hcd := zcJ))
    zar)))))
    (zae (zuC _ (zbk (zbT (zad (zaf 4 rfl zgs zfD zfE) (zad (zaf 5 rfl zeV zeo zep) zam zab) zab))))
    zar)))))
theorem zv8 (T : Txt K mg F FD TK) (hall : ∀ i, FnOk Pg w K mg base CX0 n (F i) (FD i) (zaL i) (spA K (zas U fuel n) i (zdx i))) (cdv : Value) (A : Around) (outer : List PySem.Env) (s : Shared) (H : Hp) (E : XK)
    (hr : Room n (A.deeper (envOfC "is_in_cover" (zaa (top 33)) s.heap.objs.size (F 41) cdv))) :
    ISs (zcM CX0 Pg w K mg base ["leap", "cell", "crowd", "around"] "is_in_cover" (zaa (top 33)) (F 41) cdv A outer s H E).nox (zaS (zas U fuel n) fuel ztt) (zag (top 33)) :=
  (zae (ziD (zb8 rfl (zeL hr.units) (zau (zap (hall 23) rfl) hr zm2 T.m23 T.f23.kp (T.b23) (zad (zaf 0 rfl zqN zaB zaC) (zad (zaf 1 rfl ziu zaQ zaR) zam zab) zab) zgb zab (zai zab zaj)) zaq (zbn _)) (zae (zbk (zgG (zeZ hr.units) (zaf 1 rfl ziu zaQ zaR) (zaf 2 rfl zpp zfD zfE) (by with_unfolding_all rfl)))
    zar) zar)
    (zae (zbk (zgG (zur hr.units) (zaf 1 rfl ziu zaQ zaR) (zaf 3 rfl zm1 zeo zep) (by with_unfolding_all rfl)))
    zar))
theorem zv9 (T : Txt K mg F FD TK) (hall : ∀ i, FnOk Pg w K mg base CX0 n (F i) (FD i) (zaL i) (spA K (zas U fuel n) i (zdx i))) (cdv : Value) (A : Around) (outer : List PySem.Env) (s : Shared) (H : Hp) (E : XK)
    (hr : Room n (A.deeper (envOfC "cells_by_cover" (zaa (top 34)) s.heap.objs.size (F 42) cdv))) :
    ISs (zcM CX0 Pg w K mg base ["floor", "leap", "covering", "found"] "cells_by_cover" (zaa (top 34)) (F 42) cdv A outer s H E).nox (zaS (zas U fuel n) fuel zvl) (zag (top 34)) :=
  (zae (zdI (zau (zap (hall 6) rfl) hr zk4 T.m6 T.f6.kp (T.b6) (zad (zaf 0 rfl zeD zaD zaE) zam zab) zcK zab zaj))
    (zae (zdI (zau (zap (hall 7) rfl) hr zfu T.m7 T.f7.kp (T.b7) (zad (zaf 1 rfl ziv zaB zaC) zam zab) zbp zab zaj))
    (zae (zbq 3 zy1.nd rfl zpq (zau (zap (hall 40) rfl) hr zdE T.m40 T.f40.kp (T.b40) (zad (zaf 0 rfl zeD zaD zaE) (zad (zaf 1 rfl ziv zaB zaC) (zad (zau (zap (hall 38) rfl) hr ziw T.m38 T.f38.kp (T.b38) (zad (zaf 0 rfl zeD zaD zaE) (zad (zaf 1 rfl ziv zaB zaC) zam zab) zab) zdo zab (zai zab zaj)) (zad zaq zam zac) zao) zab) zab) zcl zab (zai zab (zai zao (zai zac zaj)))))
    (zae (zbk (zdL rfl (zc6 (sc := zaa (top 34)) (N := ["floor", "leap", "covering", "found"]) rfl rfl (by decide +kernel)) (zbD (zaf 0 rfl zeD zaD zaE)) (.inr ⟨_, rfl, fun _ _ _ _ => (zb8 rfl (zeL hr.units) (zau (zap (hall 41) rfl) hr (zdg (by decide +kernel)) T.m41 T.f41.kp (T.b41) (zad (zaf 2 rfl (za8 (by decide +kernel)) zaB zaC) (zad (zaf 0 rfl (za6 (by decide +kernel)) zaQ zaR) (zad (zdH hr.units (zaf 4 rfl (za8 (by decide +kernel)) zh5 zh6) zaq (fun _ _ => rfl)) (zad (zdH hr.units (zaf 4 rfl (za8 (by decide +kernel)) zh5 zh6) zaq (fun _ _ => rfl)) zam zak) zak) zab) zab) zgM zab (zai zab (zai zak (zai zak zaj)))) (zaf 3 rfl (za8 (by decide +kernel)) zkU zkV) (zbn _))⟩) (fun _ _ _ _ => (zaf 0 rfl (za6 (by decide +kernel)) zaQ zaR))))
    zar))))
theorem zwa (T : Txt K mg F FD TK) (hall : ∀ i, FnOk Pg w K mg base CX0 n (F i) (FD i) (zaL i) (spA K (zas U fuel n) i (zdx i))) (cdv : Value) (A : Around) (outer : List PySem.Env) (s : Shared) (H : Hp) (E : XK)
    (hr : Room n (A.deeper (envOfC "most_pairs" (zaa (top 35)) s.heap.objs.size (F 43) cdv))) :
    ISs (zcM CX0 Pg w K mg base ["floor", "leap"] "most_pairs" (zaa (top 35)) (F 43) cdv A outer s H E).nox (zaS (zas U fuel n) fuel zvm) (zag (top 35)) :=
  (zae (zdI (zau (zap (hall 6) rfl) hr zk5 T.m6 T.f6.kp (T.b6) (zad (zaf 0 rfl zgu zaD zaE) zam zab) zcK zab zaj))
    (zae (zdI (zau (zap (hall 7) rfl) hr zfv T.m7 T.f7.kp (T.b7) (zad (zaf 1 rfl zmk zaB zaC) zam zab) zbp zab zaj))
    (zae (zbk (zau (zap (hall 39) rfl) hr zka T.m39 T.f39.kp (T.b39) (zad (zaf 0 rfl zgu zaD zaE) (zad (zau (zap (hall 38) rfl) hr zix T.m38 T.f38.kp (T.b38) (zad (zaf 0 rfl zgu zaD zaE) (zad (zaf 1 rfl zmk zaB zaC) zam zab) zab) zdo zab (zai zab zaj)) zam zao) zab) zgd zab (zai zao zaj)))
    zar)))
theorem zwb (T : Txt K mg F FD TK) (hall : ∀ i, FnOk Pg w K mg base CX0 n (F i) (FD i) (zaL i) (spA K (zas U fuel n) i (zdx i))) (cdv : Value) (A : Around) (outer : List PySem.Env) (s : Shared) (H : Hp) (E : XK)
    (hr : Room n (A.deeper (envOfC "peaceful" (zaa (top 36)) s.heap.objs.size (F 45) cdv))) :
    ISs (zcM CX0 Pg w K mg base ["floor", "leap"] "peaceful" (zaa (top 36)) (F 45) cdv A outer s H E).nox (zaS (zas U fuel n) fuel zvn) (zag (top 36)) :=
  (zae (zbk (zau (zap (hall 42) rfl) hr zeE T.m42 T.f42.kp (T.b42) (zad (zaf 0 rfl zpr zaD zaE) (zad (zaf 1 rfl zqO zaB zaC) (zad zpW zam zac) zab) zab) zeU zab (zai zab (zai zac zaj))))
    zar)
theorem zwc (T : Txt K mg F FD TK) (hall : ∀ i, FnOk Pg w K mg base CX0 n (F i) (FD i) (zaL i) (spA K (zas U fuel n) i (zdx i))) (cdv : Value) (A : Around) (outer : List PySem.Env) (s : Shared) (H : Hp) (E : XK)
    (hr : Room n (A.deeper (envOfC "paired" (zaa (top 37)) s.heap.objs.size (F 47) cdv))) :
    ISs (zcM CX0 Pg w K mg base ["floor", "leap", "mates", "alone", "found"] "paired" (zaa (top 37)) (F 47) cdv A outer s H E).nox (zaS (zas U fuel n) fuel zvo) (zag (top 37)) :=
  (zae (zdI (zau (zap (hall 6) rfl) hr zk6 T.m6 T.f6.kp (T.b6) (zad (zaf 0 rfl zdr zaD zaE) zam zab) zcK zab zaj))
    (zae (zdI (zau (zap (hall 7) rfl) hr zfw T.m7 T.f7.kp (T.b7) (zad (zaf 1 rfl zfH zaB zaC) zam zab) zbp zab zaj))
    (zae (zbq 2 zw7.nd rfl zpu (zau (zap (hall 38) rfl) hr ziy T.m38 T.f38.kp (T.b38) (zad (zaf 0 rfl zdr zaD zaE) (zad (zaf 1 rfl zfH zaB zaC) zam zab) zab) zdo zab (zai zab zaj)))
    (zae (zq9 3 rfl zw7.nd rfl zm3 (zc6 (sc := zaa (top 37)) (N := ["floor", "leap", "mates", "alone", "found"]) rfl rfl (by decide +kernel)) (zbD (zaf 0 rfl zdr zaD zaE)) (.inr ⟨_, rfl, fun _ _ _ _ => (zb8 rfl (zeZ hr.units) (zaf 0 rfl (za6 (by decide +kernel)) zaQ zaR) (zaf 3 rfl (za8 (by decide +kernel)) zbi zbj) (by with_unfolding_all rfl))⟩) (fun _ _ _ _ => (zaf 0 rfl (za6 (by decide +kernel)) zaQ zaR)) (hsw := (zoe (sc := zaa (top 37)) rfl (by decide +kernel))))
    (zae (ziD (zb8 rfl (zeL hr.units) (zaN zbN zth T.z_len PySem.boot_len (zad (zaf 3 rfl zkb zl1 zl2) zam zab) zbQ zbP zab zaj) zaq (zbn _)) (zae (zbk (zbT (zad zsl (zad (zau (zap (hall 39) rfl) hr zkd T.m39 T.f39.kp (T.b39) (zad (zaf 0 rfl zdr zaD zaE) (zad (zaf 2 rfl zkc zbi zbj) zam zab) zab) zgd zab (zai zab zaj)) zam zao) zac)))
    zar) zar)
    (zae (zuC _ (zbq 4 zw7.nd rfl zpt (zau (zap (hall 40) rfl) hr zdF T.m40 T.f40.kp (T.b40) (zad (zaf 0 rfl zdr zaD zaE) (zad (zaf 1 rfl zfH zaB zaC) (zad (zaf 2 rfl zkc zbi zbj) (zad (zau (zap (hall 23) rfl) hr zm5 T.m23 T.f23.kp (T.b23) (zad (zaf 1 rfl zfH zaB zaC) (zad (zdH hr.units (zaf 3 rfl zkb zl1 zl2) zaq (fun _ _ => rfl)) zam zak) zab) zgb zab (zai zak zaj)) zam zao) zab) zab) zab) zcl zab (zai zab (zai zab (zai zao zaj))))))
    (zae (zbk (zbT (zad zsl (zad (zaN zi9 zm4 T.z_sorted PyProof.Rows.boot_sorted (zad (zdH hr.units (zaf 4 rfl zps zh5 zh6) zaq (fun _ _ => rfl)) zam zak) zjJ zjI zak zaj) zam zao) zac)))
    zar)))))))
theorem zwd (T : Txt K mg F FD TK) (hall : ∀ i, FnOk Pg w K mg base CX0 n (F i) (FD i) (zaL i) (spA K (zas U fuel n) i (zdx i))) (cdv : Value) (A : Around) (outer : List PySem.Env) (s : Shared) (H : Hp) (E : XK)
    (hr : Room n (A.deeper (envOfC "law" (zaa (top 43)) s.heap.objs.size (F 52) cdv))) :
    ISs (zcM CX0 Pg w K mg base ["_law_script", "_law_floor_here", "_law_leap_here", "_law_many", "_law_peace", "_law_at", "_law_less", "_law_turned"] "law" (zaa (top 43)) (F 52) cdv A outer s H E).nox (zaS (zas U fuel n) fuel zvp) (zag (top 43)) :=
  (zae (zbq 1 zrB.nd rfl zd2 (zau (zap (hall 15) rfl) hr zgV T.m15 T.f15.kp (T.b15) (zad (zaf 0 rfl zcm zaY zaZ) (zad zaq (zad zaq zam zac) zac) zab) zib zab (zai zac (zai zac zaj))))
    (zae (zbq 2 zrB.nd rfl zeG (zau (zap (hall 16) rfl) hr ziB T.m16 T.f16.kp (T.b16) (zad (zau (zap (hall 13) rfl) hr zeH T.m13 T.f13.kp (T.b13) (zad (zaf 0 rfl zcm zaY zaZ) (zad zaq zam zac) zab) zby zab (zai zac zaj)) zam zao) zjU zao zaj))
    (zae (zbq 3 zrB.nd rfl ziA (zaN zbN zc2 T.z_len PySem.boot_len (zad (zau (zap (hall 43) rfl) hr zcx T.m43 T.f43.kp (T.b43) (zad (zaf 1 rfl zax zaz zaA) (zad (zaf 2 rfl zaK zaI zaJ) zam zab) zab) zcb zab (zai zab zaj)) zam zao) zbQ zbP zao zaj))
    (zae (zbq 4 zrB.nd rfl zgU (zaN zbN zc2 T.z_len PySem.boot_len (zad (zau (zap (hall 45) rfl) hr zfl T.m45 T.f45.kp (T.b45) (zad (zaf 1 rfl zax zaz zaA) (zad (zaf 2 rfl zaK zaI zaJ) zam zab) zab) zgg zab (zai zab zaj)) zam zao) zbQ zbP zao zaj))
    (zae (ziD (IW.t (zuu (zb8 rfl (zuq hr.units) (zb7 zbC (zaf 3 rfl zbK zbw zbx) (zaf 4 rfl zcw zcZ zc0)) (zaN zbN zc2 T.z_len PySem.boot_len (zad (zaf 1 rfl zax zaz zaA) zam zab) zbQ zbP zab zaj) (zbn _)) (znV (zb8 rfl znO (zaN (zog rfl) ztj T.z_max PyProof.Rows.boot_max (zad (zdL rfl (zc6 (sc := zaa (top 43)) (N := ["_law_script", "_law_floor_here", "_law_leap_here", "_law_many", "_law_peace", "_law_at", "_law_less", "_law_turned"]) rfl rfl (by decide +kernel)) (zbD (zau (zap (hall 25) rfl) hr zk8 T.m25 T.f25.kp (T.b25) (zad (zaf 1 rfl zax zaz zaA) (zad (zaf 2 rfl zaK zaI zaJ) zam zab) zab) zmQ zab (zai zab zaj))) (.inl ⟨rfl, rfl⟩) (fun _ _ _ _ => (zaN zbN (zdg (by decide +kernel)) T.z_len PySem.boot_len (zad (zaf 0 rfl (za6 (by decide +kernel)) zh9 zia) zam zab) zbQ zbP zab zaj))) zam zaM) zoZ zoY zaM zaj) (zaf 4 rfl zcw zcZ zc0) (zbn _))))) (zae (zbk zpW)
    zar) zar)
    (zae (ziD (zb8 rfl (zuq hr.units) (zaN (zsw rfl) zti T.z_sum PyProof.Rows.boot_sum (zad (zdL rfl (zc6 (sc := zaa (top 43)) (N := ["_law_script", "_law_floor_here", "_law_leap_here", "_law_many", "_law_peace", "_law_at", "_law_less", "_law_turned"]) rfl rfl (by decide +kernel)) (zbD (zau (zap (hall 31) rfl) hr zke T.m31 T.f31.kp (T.b31) (zad (zaf 1 rfl zax zaz zaA) (zad (zaf 2 rfl zaK zaI zaJ) zam zab) zab) zkW zab (zai zab zaj))) (.inl ⟨rfl, rfl⟩) (fun _ _ _ _ => (zaN zbN (zdg (by decide +kernel)) T.z_len PySem.boot_len (zad (zau (zap (hall 43) rfl) hr (zdg (by decide +kernel)) T.m43 T.f43.kp (T.b43) (zad (zhF zhA (zdg (by decide +kernel)) T.z_tuple PyProof.Rows.boot_tuple (zad (zaf 0 rfl (za6 (by decide +kernel)) zjS zjT) zam zab) zei zeh zab zaj) (zad (zaf 3 rfl (za8 (by decide +kernel)) zaI zaJ) zam zab) zao) zcb zao (zai zab zaj)) zam zao) zbQ zbP zao zaj))) zam zaM) zvG zvF zaM zaj) (zaf 3 rfl zbK zbw zbx) (zbn _)) (zae (zbk zpW)
    zar) zar)
    (zae (ziD (zb8 rfl znO (zaN zbN zc2 T.z_len PySem.boot_len (zad (zaf 1 rfl zax zaz zaA) zam zab) zbQ zbP zab zaj) zaq (zbn _)) (zae (zbq 5 zrB.nd rfl zk7 (zb7 zdG (zau (zap (hall 13) rfl) hr zeH T.m13 T.f13.kp (T.b13) (zad (zaf 0 rfl zcm zaY zaZ) (zad zaq zam zac) zab) zby zab (zai zac zaj)) (zaN zbN zc2 T.z_len PySem.boot_len (zad (zaf 1 rfl zax zaz zaA) zam zab) zbQ zbP zab zaj)))
    (zae (zbq 6 zrB.nd rfl ziz (zb7 zsD (zuG (zaf 1 rfl zax zaz zaA) (zaf 5 rfl zgv zce zcf)) (zuH (zaf 1 rfl zax zaz zaA) (zb7 zbC (zaf 5 rfl zgv zce zcf) zaq))))
    (zae (ziD (IW.t (zuu (ziV (zkr rfl rfl ziU ziU zaq (zb7 zeY (zaf 3 rfl zbK zbw zbx) (zaN zbN zc2 T.z_len PySem.boot_len (zad (zau (zap (hall 43) rfl) hr zcx T.m43 T.f43.kp (T.b43) (zad (zaf 6 rfl zeF zfh zfi) (zad (zaf 2 rfl zaK zaI zaJ) zam zab) zab) zcb zab (zai zab zaj)) zam zao) zbQ zbP zao zaj)) zaq)) (znV (ziV (zkr rfl rfl ziU ziU zaq (zb7 zeY (zaf 4 rfl zcw zcZ zc0) (zaN zbN zc2 T.z_len PySem.boot_len (zad (zau (zap (hall 45) rfl) hr zfl T.m45 T.f45.kp (T.b45) (zad (zaf 6 rfl zeF zfh zfi) (zad (zaf 2 rfl zaK zaI zaJ) zam zab) zab) zgg zab (zai zab zaj)) zam zao) zbQ zbP zao zaj)) zaq))))) (zae (zbk zpW)
    zar) zar)
    zar))) zar)
    (zae (zbq 7 zrB.nd rfl zgw (zhF zhA zpv T.z_tuple PyProof.Rows.boot_tuple (zad (zaN zi9 zm7 T.z_sorted PyProof.Rows.boot_sorted (zad (zdL rfl (zc6 (sc := zaa (top 43)) (N := ["_law_script", "_law_floor_here", "_law_leap_here", "_law_many", "_law_peace", "_law_at", "_law_less", "_law_turned"]) rfl rfl (by decide +kernel)) (zbD (zaf 1 rfl zax zaz zaA)) (.inl ⟨rfl, rfl⟩) (fun _ _ _ _ => (zbT (zad (zdH hr.units (zaf 0 rfl (za6 (by decide +kernel)) zaV zaW) zaq (fun _ _ => rfl)) (zad (zdH hr.units (zaf 0 rfl (za6 (by decide +kernel)) zaV zaW) zaq (fun _ _ => rfl)) zam zak) zak)))) zam zaM) zjJ zjI zaM zaj) zam zao) zei zeh zao zaj))
    (zae (zbk (zkp (zgG (zeL hr.units) (zaN zbN zc2 T.z_len PySem.boot_len (zad (zau (zap (hall 43) rfl) hr zcx T.m43 T.f43.kp (T.b43) (zad (zaf 7 rfl zds zdM zdN) (zad (zaf 2 rfl zaK zaI zaJ) zam zab) zab) zcb zab (zai zab zaj)) zam zao) zbQ zbP zao zaj) (zaf 3 rfl zbK zbw zbx) (zbn _)) (znU (zgG (zeL hr.units) (zgG zuI (zdH hr.units (zau (zap (hall 47) rfl) hr zm6 T.m47 T.f47.kp (T.b47) (zad (zaf 7 rfl zds zdM zdN) (zad (zaf 2 rfl zaK zaI zaJ) zam zab) zab) zo5 zab (zai zab zaj)) zaq (fun _ _ => rfl)) zsl (zbn _)) (zgG (zeL hr.units) (zb7 zfQ zaq (zaf 3 rfl zbK zbw zbx)) (zaN zbN zc2 T.z_len PySem.boot_len (zad (zaf 1 rfl zax zaz zaA) zam zab) zbQ zbP zab zaj) (zbn _)) (zbn _)))))
    zar)))))))))
theorem za4 (T : Txt K mg F FD TK) : ∀ n i, FnOk Pg w K mg base CX0 n (F i) (FD i) (zaL i) (spA K (zas U fuel n) i (zdx i))
  | 0, _ => zss
  | n + 1, 0 => zbr (F0 := ⟨3, 3, ir0, [], none⟩) T.f0 sc0 rfl rfl rfl rfl (by decide) rfl (zyq T (za4 T n))
  | n + 1, 1 => zbr (F0 := ⟨1, 1, ir1, [], none⟩) T.f1 sc1 rfl rfl rfl rfl (by decide) rfl (zyr T (za4 T n))
  | n + 1, 2 => zbr (F0 := ⟨1, 1, ir2, [], none⟩) T.f2 sc2 rfl rfl rfl rfl (by decide) rfl (zys T (za4 T n))
  | n + 1, 3 => zbr (F0 := ⟨1, 1, ir3, [], none⟩) T.f3 sc3 rfl rfl rfl rfl (by decide) rfl (zyt T (za4 T n))
  | n + 1, 4 => zbr (F0 := ⟨1, 1, ir4, [], none⟩) T.f4 sc4 rfl rfl rfl rfl (by decide) rfl (zyu T (za4 T n))
  | n + 1, 5 => zbr (F0 := ⟨1, 1, ir5, [], none⟩) T.f5 sc5 rfl rfl rfl rfl (by decide) rfl (zyv T (za4 T n))
  | n + 1, 6 => zbr (F0 := ⟨1, 1, ir6, [], none⟩) T.f6 sc6 rfl rfl rfl rfl (by decide) rfl (zyw T (za4 T n))
  | n + 1, 7 => zbr (F0 := ⟨1, 1, ir7, [], none⟩) T.f7 sc7 rfl rfl rfl rfl (by decide) rfl (zyx T (za4 T n))
  | n + 1, 8 => zba rfl
  | n + 1, 9 => zbr (F0 := ⟨2, 2, ir9, [], none⟩) T.f9 sc9 rfl rfl rfl rfl (by decide) rfl (zyy T (za4 T n))
  | n + 1, 10 => zbr (F0 := ⟨3, 3, zu4, [], none⟩) T.f10 zzH rfl rfl rfl rfl (by decide) rfl (zvQ T (za4 T n))
  | n + 1, 11 => zbr (F0 := ⟨3, 3, zu5, [], none⟩) T.f11 zzI rfl rfl rfl rfl (by decide) rfl (zvR T (za4 T n))
  | n + 1, 12 => zba rfl
  | n + 1, 13 => zbr (F0 := ⟨2, 2, zu6, [], none⟩) T.f13 zzJ rfl rfl rfl rfl (by decide) rfl (zvS T (za4 T n))
  | n + 1, 14 => zbr (F0 := ⟨3, 3, zu7, [], none⟩) T.f14 zzK rfl rfl rfl rfl (by decide) rfl (zvT T (za4 T n))
  | n + 1, 15 => zbr (F0 := ⟨3, 13, zu8, [], none⟩) T.f15 zna rfl rfl rfl rfl (by decide) rfl (zvU T (za4 T n))
  | n + 1, 16 => zbr (F0 := ⟨1, 2, zu9, [], none⟩) T.f16 zyY rfl rfl rfl rfl (by decide) rfl (zvV T (za4 T n))
  | n + 1, 17 => zba rfl
  | n + 1, 18 => zba rfl
  | n + 1, 19 => zba rfl
  | n + 1, 20 => zbr (F0 := ⟨3, 8, zva, [], none⟩) T.f20 ztb rfl rfl rfl rfl (by decide) rfl (zvW T (za4 T n))
  | n + 1, 21 => zbr (F0 := ⟨1, 1, zvb, [], none⟩) T.f21 zzL rfl rfl rfl rfl (by decide) rfl (zvX T (za4 T n))
  | n + 1, 22 => zbr (F0 := ⟨1, 2, zvc, [], none⟩) T.f22 zyZ rfl rfl rfl rfl (by decide) rfl (zvY T (za4 T n))
  | n + 1, 23 => zbr (F0 := ⟨2, 5, zvd, [], none⟩) T.f23 zw6 rfl rfl rfl rfl (by decide) rfl (zvZ T (za4 T n))
  | n + 1, 24 => zbr (F0 := ⟨3, 3, zve, [], none⟩) T.f24 zzM rfl rfl rfl rfl (by decide) rfl (zv0 T (za4 T n))
  | n + 1, 25 => zbr (F0 := ⟨2, 2, zvf, [], none⟩) T.f25 zzN rfl rfl rfl rfl (by decide) rfl (zv1 T (za4 T n))
  | n + 1, 26 => zba rfl
  | n + 1, 27 => zba rfl
  | n + 1, 28 => zba rfl
  | n + 1, 29 => zba rfl
  | n + 1, 30 => zbr (F0 := ⟨2, 6, zvg, [], none⟩) T.f30 zvP rfl rfl rfl rfl (by decide) rfl (zv2 T (za4 T n))
  | n + 1, 31 => zbr (F0 := ⟨2, 2, zvh, [], none⟩) T.f31 zzO rfl rfl rfl rfl (by decide) rfl (zv3 T (za4 T n))
  | n + 1, 32 => zba rfl
  | n + 1, 33 => zba rfl
  | n + 1, 34 => zba rfl
  | n + 1, 35 => zba rfl
  | n + 1, 36 => zba rfl
  | n + 1, 37 => zbr (F0 := ⟨5, 6, zts, [2, 4], none⟩) T.f37 zy0 rfl rfl rfl rfl (by decide) rfl (zv4 T (za4 T n))
  | n + 1, 38 => zbr (F0 := ⟨2, 4, zvi, [], none⟩) T.f38 zyp rfl rfl rfl rfl (by decide) rfl (zv5 T (za4 T n))
  | n + 1, 39 => zbr (F0 := ⟨2, 2, zvj, [], none⟩) T.f39 zzP rfl rfl rfl rfl (by decide) rfl (zv6 T (za4 T n))
  | n + 1, 40 => zbr (F0 := ⟨4, 10, zvk, [], none⟩) T.f40 zqK rfl rfl rfl rfl (by decide) rfl (zv7 T (za4 T n))
  | n + 1, 41 => zbr (F0 := ⟨4, 4, ztt, [], none⟩) T.f41 zzQ rfl rfl rfl rfl (by decide) rfl (zv8 T (za4 T n))
  | n + 1, 42 => zbr (F0 := ⟨3, 4, zvl, [], none⟩) T.f42 zy1 rfl rfl rfl rfl (by decide) rfl (zv9 T (za4 T n))
  | n + 1, 43 => zbr (F0 := ⟨2, 2, zvm, [], none⟩) T.f43 zzR rfl rfl rfl rfl (by decide) rfl (zwa T (za4 T n))
  | n + 1, 44 => zba rfl
  | n + 1, 45 => zbr (F0 := ⟨2, 2, zvn, [], none⟩) T.f45 zzS rfl rfl rfl rfl (by decide) rfl (zwb T (za4 T n))
  | n + 1, 46 => zba rfl
  | n + 1, 47 => zbr (F0 := ⟨2, 5, zvo, [], none⟩) T.f47 zw7 rfl rfl rfl rfl (by decide) rfl (zwc T (za4 T n))
  | n + 1, 48 => zba rfl
  | n + 1, 49 => zba rfl
  | n + 1, 50 => zba rfl
  | n + 1, 51 => zba rfl
  | n + 1, 52 => zbr (F0 := ⟨1, 8, zvp, [], none⟩) T.f52 zrB rfl rfl rfl rfl (by decide) rfl (zwd T (za4 T n))
  | n + 1, _ + 53 => zba rfl
theorem zwe {h : Heap} (X : K.In h) (G : h.Ns mainGlobals mg) {f0 f1 f2 f3 f4 f5 f6 f7 f9 f10 f11 f13 f14 f15 f16 f20 f21 f22 f23 f24 f25 f30 f31 f37 f38 f39 f40 f41 f42 f43 f45 f47 f52 : Addr} {od0 od1 od2 od3 od4 od5 od6 od7 od9 od10 od11 od13 od14 od15 od16 od20 od21 od22 od23 od24 od25 od30 od31 od37 od38 od39 od40 od41 od42 od43 od45 od47 od52 an0 an1 an2 an3 an4 an5 an6 an7 an9 an10 an11 an13 an14 an15 an16 an20 an21 an22 an23 an24 an25 an30 an31 an37 an38 an39 an40 an41 an42 an43 an45 an47 an52 : Option Addr} {sl0 sl1 sl2 sl3 sl4 sl5 sl6 sl7 sl9 sl10 sl11 sl13 sl14 sl15 sl16 sl20 sl21 sl22 sl23 sl24 sl25 sl30 sl31 sl37 sl38 sl39 sl40 sl41 sl42 sl43 sl45 sl47 sl52 : Array (Option Value)} {oc0 oc1 oc2 oc3 oc4 oc5 oc6 oc7 oc9 oc10 oc11 oc13 oc14 oc15 oc16 oc20 oc21 oc22 oc23 oc24 oc25 oc30 oc31 oc37 oc38 oc39 oc40 oc41 oc42 oc43 oc45 oc47 oc52 kV0 kV1 kV2 kV3 kV4 kV5 kV6 kV7 kV9 kV10 kV11 kV13 kV14 kV15 kV16 kV20 kV21 kV22 kV23 kV24 kV25 kV30 kV31 kV37 kV38 kV39 kV40 kV41 kV42 kV43 kV45 kV47 kV52 dc0 dc1 dc2 dc3 dc4 dc5 dc6 dc7 dc9 dc10 dc11 dc13 dc14 dc15 dc16 dc20 dc21 dc22 dc23 dc24 dc25 dc30 dc31 dc37 dc38 dc39 dc40 dc41 dc42 dc43 dc45 dc47 dc52 pm0 pm1 pm2 pm3 pm4 pm5 pm6 pm7 pm9 pm10 pm11 pm13 pm14 pm15 pm16 pm20 pm21 pm22 pm23 pm24 pm25 pm30 pm31 pm37 pm38 pm39 pm40 pm41 pm42 pm43 pm45 pm47 pm52 cd0 cd1 cd2 cd3 cd4 cd5 cd6 cd7 cd9 cd10 cd11 cd13 cd14 cd15 cd16 cd20 cd21 cd22 cd23 cd24 cd25 cd30 cd31 cd37 cd38 cd39 cd40 cd41 cd42 cd43 cd45 cd47 cd52 ct0 ct1 ct2 ct3 ct4 ct5 ct6 ct7 ct9 ct10 ct11 ct13 ct14 ct15 ct16 ct20 ct21 ct22 ct23 ct24 ct25 ct30 ct31 ct37 ct38 ct39 ct40 ct41 ct42 ct43 ct45 ct47 ct52 : Value} {t0 t1 t2 : Tok}
    (a0 : PySem.W.nsIn K mainGlobals "is_whole" = some (some (.ref f0))) (l0 : K.lookup f0 = some ⟨oc0, od0, .func (PySem.W.fnOf "is_whole" "is_whole" (zan (top 8)) (zag (top 8)) (zaa (top 8)) .none kV0 dc0 pm0 an0 cd0 ct0), sl0⟩) (e0 : PySem.W.codeIn K cd0 "is_whole" = true) (k0 : PySem.W.keepIn K (.ref f0) = true)
    (a1 : PySem.W.nsIn K mainGlobals "is_couple" = some (some (.ref f1))) (l1 : K.lookup f1 = some ⟨oc1, od1, .func (PySem.W.fnOf "is_couple" "is_couple" (zan (top 9)) (zag (top 9)) (zaa (top 9)) .none kV1 dc1 pm1 an1 cd1 ct1), sl1⟩) (e1 : PySem.W.codeIn K cd1 "is_couple" = true) (k1 : PySem.W.keepIn K (.ref f1) = true)
    (a2 : PySem.W.nsIn K mainGlobals "is_cell" = some (some (.ref f2))) (l2 : K.lookup f2 = some ⟨oc2, od2, .func (PySem.W.fnOf "is_cell" "is_cell" (zan (top 10)) (zag (top 10)) (zaa (top 10)) .none kV2 dc2 pm2 an2 cd2 ct2), sl2⟩) (e2 : PySem.W.codeIn K cd2 "is_cell" = true) (k2 : PySem.W.keepIn K (.ref f2) = true)
    (a3 : PySem.W.nsIn K mainGlobals "is_leap" = some (some (.ref f3))) (l3 : K.lookup f3 = some ⟨oc3, od3, .func (PySem.W.fnOf "is_leap" "is_leap" (zan (top 11)) (zag (top 11)) (zaa (top 11)) .none kV3 dc3 pm3 an3 cd3 ct3), sl3⟩) (e3 : PySem.W.codeIn K cd3 "is_leap" = true) (k3 : PySem.W.keepIn K (.ref f3) = true)
    (a4 : PySem.W.nsIn K mainGlobals "is_rising" = some (some (.ref f4))) (l4 : K.lookup f4 = some ⟨oc4, od4, .func (PySem.W.fnOf "is_rising" "is_rising" (zan (top 12)) (zag (top 12)) (zaa (top 12)) .none kV4 dc4 pm4 an4 cd4 ct4), sl4⟩) (e4 : PySem.W.codeIn K cd4 "is_rising" = true) (k4 : PySem.W.keepIn K (.ref f4) = true)
    (a5 : PySem.W.nsIn K mainGlobals "is_floor" = some (some (.ref f5))) (l5 : K.lookup f5 = some ⟨oc5, od5, .func (PySem.W.fnOf "is_floor" "is_floor" (zan (top 13)) (zag (top 13)) (zaa (top 13)) .none kV5 dc5 pm5 an5 cd5 ct5), sl5⟩) (e5 : PySem.W.codeIn K cd5 "is_floor" = true) (k5 : PySem.W.keepIn K (.ref f5) = true)
    (a6 : PySem.W.nsIn K mainGlobals "checked" = some (some (.ref f6))) (l6 : K.lookup f6 = some ⟨oc6, od6, .func (PySem.W.fnOf "checked" "checked" (zan (top 14)) (zag (top 14)) (zaa (top 14)) .none kV6 dc6 pm6 an6 cd6 ct6), sl6⟩) (e6 : PySem.W.codeIn K cd6 "checked" = true) (k6 : PySem.W.keepIn K (.ref f6) = true)
    (a7 : PySem.W.nsIn K mainGlobals "checked_leap" = some (some (.ref f7))) (l7 : K.lookup f7 = some ⟨oc7, od7, .func (PySem.W.fnOf "checked_leap" "checked_leap" (zan (top 15)) (zag (top 15)) (zaa (top 15)) .none kV7 dc7 pm7 an7 cd7 ct7), sl7⟩) (e7 : PySem.W.codeIn K cd7 "checked_leap" = true) (k7 : PySem.W.keepIn K (.ref f7) = true)
    (a9 : PySem.W.nsIn K mainGlobals "folded" = some (some (.ref f9))) (l9 : K.lookup f9 = some ⟨oc9, od9, .func (PySem.W.fnOf "folded" "folded" (zan (top 17)) (zag (top 17)) (zaa (top 17)) .none kV9 dc9 pm9 an9 cd9 ct9), sl9⟩) (e9 : PySem.W.codeIn K cd9 "folded" = true) (k9 : PySem.W.keepIn K (.ref f9) = true)
    (a10 : PySem.W.nsIn K mainGlobals "are_near" = some (some (.ref f10))) (l10 : K.lookup f10 = some ⟨oc10, od10, .func (PySem.W.fnOf "are_near" "are_near" (zan (top 18)) (zag (top 18)) (zaa (top 18)) .none kV10 dc10 pm10 an10 cd10 ct10), sl10⟩) (e10 : PySem.W.codeIn K cd10 "are_near" = true) (k10 : PySem.W.keepIn K (.ref f10) = true)
    (a11 : PySem.W.nsIn K mainGlobals "cells_near" = some (some (.ref f11))) (l11 : K.lookup f11 = some ⟨oc11, od11, .func (PySem.W.fnOf "cells_near" "cells_near" (zan (top 19)) (zag (top 19)) (zaa (top 19)) .none kV11 dc11 pm11 an11 cd11 ct11), sl11⟩) (e11 : PySem.W.codeIn K cd11 "cells_near" = true) (k11 : PySem.W.keepIn K (.ref f11) = true)
    (a13 : PySem.W.nsIn K mainGlobals "_law_cell" = some (some (.ref f13))) (l13 : K.lookup f13 = some ⟨oc13, od13, .func (PySem.W.fnOf "_law_cell" "_law_cell" (zan (top 39)) (zag (top 39)) (zaa (top 39)) .none kV13 dc13 pm13 an13 cd13 ct13), sl13⟩) (e13 : PySem.W.codeIn K cd13 "_law_cell" = true) (k13 : PySem.W.keepIn K (.ref f13) = true)
    (a14 : PySem.W.nsIn K mainGlobals "_law_mix" = some (some (.ref f14))) (l14 : K.lookup f14 = some ⟨oc14, od14, .func (PySem.W.fnOf "_law_mix" "_law_mix" (zan (top 40)) (zag (top 40)) (zaa (top 40)) .none kV14 dc14 pm14 an14 cd14 ct14), sl14⟩) (e14 : PySem.W.codeIn K cd14 "_law_mix" = true) (k14 : PySem.W.keepIn K (.ref f14) = true)
    (a15 : PySem.W.nsIn K mainGlobals "_law_floor" = some (some (.ref f15))) (l15 : K.lookup f15 = some ⟨oc15, od15, .func (PySem.W.fnOf "_law_floor" "_law_floor" (zan (top 41)) (zag (top 41)) (zaa (top 41)) .none kV15 dc15 pm15 an15 cd15 ct15), sl15⟩) (e15 : PySem.W.codeIn K cd15 "_law_floor" = true) (k15 : PySem.W.keepIn K (.ref f15) = true)
    (a16 : PySem.W.nsIn K mainGlobals "_law_leap" = some (some (.ref f16))) (l16 : K.lookup f16 = some ⟨oc16, od16, .func (PySem.W.fnOf "_law_leap" "_law_leap" (zan (top 42)) (zag (top 42)) (zaa (top 42)) .none kV16 dc16 pm16 an16 cd16 ct16), sl16⟩) (e16 : PySem.W.codeIn K cd16 "_law_leap" = true) (k16 : PySem.W.keepIn K (.ref f16) = true)
    (a20 : PySem.W.nsIn K mainGlobals "leads_to" = some (some (.ref f20))) (l20 : K.lookup f20 = some ⟨oc20, od20, .func (PySem.W.fnOf "leads_to" "leads_to" (zan (top 20)) (zag (top 20)) (zaa (top 20)) .none kV20 dc20 pm20 an20 cd20 ct20), sl20⟩) (e20 : PySem.W.codeIn K cd20 "leads_to" = true) (k20 : PySem.W.keepIn K (.ref f20) = true)
    (a21 : PySem.W.nsIn K mainGlobals "greatest_divisor" = some (some (.ref f21))) (l21 : K.lookup f21 = some ⟨oc21, od21, .func (PySem.W.fnOf "greatest_divisor" "greatest_divisor" (zan (top 22)) (zag (top 22)) (zaa (top 22)) .none kV21 dc21 pm21 an21 cd21 ct21), sl21⟩) (e21 : PySem.W.codeIn K cd21 "greatest_divisor" = true) (k21 : PySem.W.keepIn K (.ref f21) = true)
    (a22 : PySem.W.nsIn K mainGlobals "has_odd_sum" = some (some (.ref f22))) (l22 : K.lookup f22 = some ⟨oc22, od22, .func (PySem.W.fnOf "has_odd_sum" "has_odd_sum" (zan (top 23)) (zag (top 23)) (zaa (top 23)) .none kV22 dc22 pm22 an22 cd22 ct22), sl22⟩) (e22 : PySem.W.codeIn K cd22 "has_odd_sum" = true) (k22 : PySem.W.keepIn K (.ref f22) = true)
    (a23 : PySem.W.nsIn K mainGlobals "hue_of" = some (some (.ref f23))) (l23 : K.lookup f23 = some ⟨oc23, od23, .func (PySem.W.fnOf "hue_of" "hue_of" (zan (top 24)) (zag (top 24)) (zaa (top 24)) .none kV23 dc23 pm23 an23 cd23 ct23), sl23⟩) (e23 : PySem.W.codeIn K cd23 "hue_of" = true) (k23 : PySem.W.keepIn K (.ref f23) = true)
    (a24 : PySem.W.nsIn K mainGlobals "cells_of_hue" = some (some (.ref f24))) (l24 : K.lookup f24 = some ⟨oc24, od24, .func (PySem.W.fnOf "cells_of_hue" "cells_of_hue" (zan (top 25)) (zag (top 25)) (zaa (top 25)) .none kV24 dc24 pm24 an24 cd24 ct24), sl24⟩) (e24 : PySem.W.codeIn K cd24 "cells_of_hue" = true) (k24 : PySem.W.keepIn K (.ref f24) = true)
    (a25 : PySem.W.nsIn K mainGlobals "hues_of" = some (some (.ref f25))) (l25 : K.lookup f25 = some ⟨oc25, od25, .func (PySem.W.fnOf "hues_of" "hues_of" (zan (top 27)) (zag (top 27)) (zaa (top 27)) .none kV25 dc25 pm25 an25 cd25 ct25), sl25⟩) (e25 : PySem.W.codeIn K cd25 "hues_of" = true) (k25 : PySem.W.keepIn K (.ref f25) = true)
    (a30 : PySem.W.nsIn K mainGlobals "parts_within" = some (some (.ref f30))) (l30 : K.lookup f30 = some ⟨oc30, od30, .func (PySem.W.fnOf "parts_within" "parts_within" (zan (top 21)) (zag (top 21)) (zaa (top 21)) .none kV30 dc30 pm30 an30 cd30 ct30), sl30⟩) (e30 : PySem.W.codeIn K cd30 "parts_within" = true) (k30 : PySem.W.keepIn K (.ref f30) = true)
    (a31 : PySem.W.nsIn K mainGlobals "parts_of" = some (some (.ref f31))) (l31 : K.lookup f31 = some ⟨oc31, od31, .func (PySem.W.fnOf "parts_of" "parts_of" (zan (top 26)) (zag (top 26)) (zaa (top 26)) .none kV31 dc31 pm31 an31 cd31 ct31), sl31⟩) (e31 : PySem.W.codeIn K cd31 "parts_of" = true) (k31 : PySem.W.keepIn K (.ref f31) = true)
    (a37 : PySem.W.nsIn K mainGlobals "finds_mate" = some (some (.ref f37))) (l37 : K.lookup f37 = some ⟨oc37, od37, .func (PySem.W.fnOf "finds_mate" "finds_mate" (zan (top 29)) (zag (top 29)) (zaa (top 29)) .none kV37 dc37 pm37 an37 cd37 ct37), sl37⟩) (e37 : PySem.W.codeIn K cd37 "finds_mate" = true) (k37 : PySem.W.keepIn K (.ref f37) = true)
    (a38 : PySem.W.nsIn K mainGlobals "all_mates" = some (some (.ref f38))) (l38 : K.lookup f38 = some ⟨oc38, od38, .func (PySem.W.fnOf "all_mates" "all_mates" (zan (top 30)) (zag (top 30)) (zaa (top 30)) .none kV38 dc38 pm38 an38 cd38 ct38), sl38⟩) (e38 : PySem.W.codeIn K cd38 "all_mates" = true) (k38 : PySem.W.keepIn K (.ref f38) = true)
    (a39 : PySem.W.nsIn K mainGlobals "pairs_of" = some (some (.ref f39))) (l39 : K.lookup f39 = some ⟨oc39, od39, .func (PySem.W.fnOf "pairs_of" "pairs_of" (zan (top 31)) (zag (top 31)) (zaa (top 31)) .none kV39 dc39 pm39 an39 cd39 ct39), sl39⟩) (e39 : PySem.W.codeIn K cd39 "pairs_of" = true) (k39 : PySem.W.keepIn K (.ref f39) = true)
    (a40 : PySem.W.nsIn K mainGlobals "crowd_and_around" = some (some (.ref f40))) (l40 : K.lookup f40 = some ⟨oc40, od40, .func (PySem.W.fnOf "crowd_and_around" "crowd_and_around" (zan (top 32)) (zag (top 32)) (zaa (top 32)) .none kV40 dc40 pm40 an40 cd40 ct40), sl40⟩) (e40 : PySem.W.codeIn K cd40 "crowd_and_around" = true) (k40 : PySem.W.keepIn K (.ref f40) = true)
    (a41 : PySem.W.nsIn K mainGlobals "is_in_cover" = some (some (.ref f41))) (l41 : K.lookup f41 = some ⟨oc41, od41, .func (PySem.W.fnOf "is_in_cover" "is_in_cover" (zan (top 33)) (zag (top 33)) (zaa (top 33)) .none kV41 dc41 pm41 an41 cd41 ct41), sl41⟩) (e41 : PySem.W.codeIn K cd41 "is_in_cover" = true) (k41 : PySem.W.keepIn K (.ref f41) = true)
    (a42 : PySem.W.nsIn K mainGlobals "cells_by_cover" = some (some (.ref f42))) (l42 : K.lookup f42 = some ⟨oc42, od42, .func (PySem.W.fnOf "cells_by_cover" "cells_by_cover" (zan (top 34)) (zag (top 34)) (zaa (top 34)) .none kV42 dc42 pm42 an42 cd42 ct42), sl42⟩) (e42 : PySem.W.codeIn K cd42 "cells_by_cover" = true) (k42 : PySem.W.keepIn K (.ref f42) = true)
    (a43 : PySem.W.nsIn K mainGlobals "most_pairs" = some (some (.ref f43))) (l43 : K.lookup f43 = some ⟨oc43, od43, .func (PySem.W.fnOf "most_pairs" "most_pairs" (zan (top 35)) (zag (top 35)) (zaa (top 35)) .none kV43 dc43 pm43 an43 cd43 ct43), sl43⟩) (e43 : PySem.W.codeIn K cd43 "most_pairs" = true) (k43 : PySem.W.keepIn K (.ref f43) = true)
    (a45 : PySem.W.nsIn K mainGlobals "peaceful" = some (some (.ref f45))) (l45 : K.lookup f45 = some ⟨oc45, od45, .func (PySem.W.fnOf "peaceful" "peaceful" (zan (top 36)) (zag (top 36)) (zaa (top 36)) .none kV45 dc45 pm45 an45 cd45 ct45), sl45⟩) (e45 : PySem.W.codeIn K cd45 "peaceful" = true) (k45 : PySem.W.keepIn K (.ref f45) = true)
    (a47 : PySem.W.nsIn K mainGlobals "paired" = some (some (.ref f47))) (l47 : K.lookup f47 = some ⟨oc47, od47, .func (PySem.W.fnOf "paired" "paired" (zan (top 37)) (zag (top 37)) (zaa (top 37)) .none kV47 dc47 pm47 an47 cd47 ct47), sl47⟩) (e47 : PySem.W.codeIn K cd47 "paired" = true) (k47 : PySem.W.keepIn K (.ref f47) = true)
    (a52 : PySem.W.nsIn K mainGlobals "law" = some (some (.ref f52))) (l52 : K.lookup f52 = some ⟨oc52, od52, .func (PySem.W.fnOf "law" "law" (zan (top 43)) (zag (top 43)) (zaa (top 43)) .none kV52 dc52 pm52 an52 cd52 ct52), sl52⟩) (e52 : PySem.W.codeIn K cd52 "law" = true) (k52 : PySem.W.keepIn K (.ref f52) = true)
    (z_isinstance : PySem.W.nsIn K mainGlobals "isinstance" = some none)
    (z_int : PySem.W.nsIn K mainGlobals "int" = some none)
    (z_bool : PySem.W.nsIn K mainGlobals "bool" = some none)
    (z_len : PySem.W.nsIn K mainGlobals "len" = some none)
    (z_tuple : PySem.W.nsIn K mainGlobals "tuple" = some none)
    (z_range : PySem.W.nsIn K mainGlobals "range" = some none)
    (z_all : PySem.W.nsIn K mainGlobals "all" = some none)
    (z_abs : PySem.W.nsIn K mainGlobals "abs" = some none)
    (z_max : PySem.W.nsIn K mainGlobals "max" = some none)
    (z_min : PySem.W.nsIn K mainGlobals "min" = some none)
    (z_sorted : PySem.W.nsIn K mainGlobals "sorted" = some none)
    (z_sum : PySem.W.nsIn K mainGlobals "sum" = some none)
    (c0 : PySem.W.nsIn K mainGlobals "LAST_LINE" = some (some (.int 7 t0)))
    (c1 : PySem.W.nsIn K mainGlobals "MOST_CELLS" = some (some (.int 24 t1)))
    (c2 : PySem.W.nsIn K mainGlobals "LONGEST_LEAP" = some (some (.int 4 t2)))
    : ∃ F FD TK, Txt K mg F FD TK ∧ F 52 = f52 ∧ (∀ (s : Shared) (u : Value), BindsTo s (FD 52) ⟨[u], []⟩ [("_law_script", u)]) :=
  ⟨fun i => match i with
     | 1 => f1
     | 2 => f2
     | 3 => f3
     | 4 => f4
     | 5 => f5
     | 6 => f6
     | 7 => f7
     | 9 => f9
     | 10 => f10
     | 11 => f11
     | 13 => f13
     | 14 => f14
     | 15 => f15
     | 16 => f16
     | 20 => f20
     | 21 => f21
     | 22 => f22
     | 23 => f23
     | 24 => f24
     | 25 => f25
     | 30 => f30
     | 31 => f31
     | 37 => f37
     | 38 => f38
     | 39 => f39
     | 40 => f40
     | 41 => f41
     | 42 => f42
     | 43 => f43
     | 45 => f45
     | 47 => f47
     | 52 => f52
     | _ => f0,
   fun i => match i with
     | 1 => PySem.W.fnOf "is_couple" "is_couple" (zan (top 9)) (zag (top 9)) (zaa (top 9)) .none kV1 dc1 pm1 an1 cd1 ct1
     | 2 => PySem.W.fnOf "is_cell" "is_cell" (zan (top 10)) (zag (top 10)) (zaa (top 10)) .none kV2 dc2 pm2 an2 cd2 ct2
     | 3 => PySem.W.fnOf "is_leap" "is_leap" (zan (top 11)) (zag (top 11)) (zaa (top 11)) .none kV3 dc3 pm3 an3 cd3 ct3
     | 4 => PySem.W.fnOf "is_rising" "is_rising" (zan (top 12)) (zag (top 12)) (zaa (top 12)) .none kV4 dc4 pm4 an4 cd4 ct4
     | 5 => PySem.W.fnOf "is_floor" "is_floor" (zan (top 13)) (zag (top 13)) (zaa (top 13)) .none kV5 dc5 pm5 an5 cd5 ct5
     | 6 => PySem.W.fnOf "checked" "checked" (zan (top 14)) (zag (top 14)) (zaa (top 14)) .none kV6 dc6 pm6 an6 cd6 ct6
     | 7 => PySem.W.fnOf "checked_leap" "checked_leap" (zan (top 15)) (zag (top 15)) (zaa (top 15)) .none kV7 dc7 pm7 an7 cd7 ct7
     | 9 => PySem.W.fnOf "folded" "folded" (zan (top 17)) (zag (top 17)) (zaa (top 17)) .none kV9 dc9 pm9 an9 cd9 ct9
     | 10 => PySem.W.fnOf "are_near" "are_near" (zan (top 18)) (zag (top 18)) (zaa (top 18)) .none kV10 dc10 pm10 an10 cd10 ct10
     | 11 => PySem.W.fnOf "cells_near" "cells_near" (zan (top 19)) (zag (top 19)) (zaa (top 19)) .none kV11 dc11 pm11 an11 cd11 ct11
     | 13 => PySem.W.fnOf "_law_cell" "_law_cell" (zan (top 39)) (zag (top 39)) (zaa (top 39)) .none kV13 dc13 pm13 an13 cd13 ct13
     | 14 => PySem.W.fnOf "_law_mix" "_law_mix" (zan (top 40)) (zag (top 40)) (zaa (top 40)) .none kV14 dc14 pm14 an14 cd14 ct14
     | 15 => PySem.W.fnOf "_law_floor" "_law_floor" (zan (top 41)) (zag (top 41)) (zaa (top 41)) .none kV15 dc15 pm15 an15 cd15 ct15
     | 16 => PySem.W.fnOf "_law_leap" "_law_leap" (zan (top 42)) (zag (top 42)) (zaa (top 42)) .none kV16 dc16 pm16 an16 cd16 ct16
     | 20 => PySem.W.fnOf "leads_to" "leads_to" (zan (top 20)) (zag (top 20)) (zaa (top 20)) .none kV20 dc20 pm20 an20 cd20 ct20
     | 21 => PySem.W.fnOf "greatest_divisor" "greatest_divisor" (zan (top 22)) (zag (top 22)) (zaa (top 22)) .none kV21 dc21 pm21 an21 cd21 ct21
     | 22 => PySem.W.fnOf "has_odd_sum" "has_odd_sum" (zan (top 23)) (zag (top 23)) (zaa (top 23)) .none kV22 dc22 pm22 an22 cd22 ct22
     | 23 => PySem.W.fnOf "hue_of" "hue_of" (zan (top 24)) (zag (top 24)) (zaa (top 24)) .none kV23 dc23 pm23 an23 cd23 ct23
     | 24 => PySem.W.fnOf "cells_of_hue" "cells_of_hue" (zan (top 25)) (zag (top 25)) (zaa (top 25)) .none kV24 dc24 pm24 an24 cd24 ct24
     | 25 => PySem.W.fnOf "hues_of" "hues_of" (zan (top 27)) (zag (top 27)) (zaa (top 27)) .none kV25 dc25 pm25 an25 cd25 ct25
     | 30 => PySem.W.fnOf "parts_within" "parts_within" (zan (top 21)) (zag (top 21)) (zaa (top 21)) .none kV30 dc30 pm30 an30 cd30 ct30
     | 31 => PySem.W.fnOf "parts_of" "parts_of" (zan (top 26)) (zag (top 26)) (zaa (top 26)) .none kV31 dc31 pm31 an31 cd31 ct31
     | 37 => PySem.W.fnOf "finds_mate" "finds_mate" (zan (top 29)) (zag (top 29)) (zaa (top 29)) .none kV37 dc37 pm37 an37 cd37 ct37
     | 38 => PySem.W.fnOf "all_mates" "all_mates" (zan (top 30)) (zag (top 30)) (zaa (top 30)) .none kV38 dc38 pm38 an38 cd38 ct38
     | 39 => PySem.W.fnOf "pairs_of" "pairs_of" (zan (top 31)) (zag (top 31)) (zaa (top 31)) .none kV39 dc39 pm39 an39 cd39 ct39
     | 40 => PySem.W.fnOf "crowd_and_around" "crowd_and_around" (zan (top 32)) (zag (top 32)) (zaa (top 32)) .none kV40 dc40 pm40 an40 cd40 ct40
     | 41 => PySem.W.fnOf "is_in_cover" "is_in_cover" (zan (top 33)) (zag (top 33)) (zaa (top 33)) .none kV41 dc41 pm41 an41 cd41 ct41
     | 42 => PySem.W.fnOf "cells_by_cover" "cells_by_cover" (zan (top 34)) (zag (top 34)) (zaa (top 34)) .none kV42 dc42 pm42 an42 cd42 ct42
     | 43 => PySem.W.fnOf "most_pairs" "most_pairs" (zan (top 35)) (zag (top 35)) (zaa (top 35)) .none kV43 dc43 pm43 an43 cd43 ct43
     | 45 => PySem.W.fnOf "peaceful" "peaceful" (zan (top 36)) (zag (top 36)) (zaa (top 36)) .none kV45 dc45 pm45 an45 cd45 ct45
     | 47 => PySem.W.fnOf "paired" "paired" (zan (top 37)) (zag (top 37)) (zaa (top 37)) .none kV47 dc47 pm47 an47 cd47 ct47
     | 52 => PySem.W.fnOf "law" "law" (zan (top 43)) (zag (top 43)) (zaa (top 43)) .none kV52 dc52 pm52 an52 cd52 ct52
     | _ => PySem.W.fnOf "is_whole" "is_whole" (zan (top 8)) (zag (top 8)) (zaa (top 8)) .none kV0 dc0 pm0 an0 cd0 ct0,
   fun i => [t0, t1, t2].getD i 0,
   {
     m0 := PySem.W.mg_of X G a0
     f0 := zav (st := top 8) l0 e0 k0
     b0 := (zav (st := top 8) l0 e0 k0).binds (ps := zaL 0) fun _ _ _ _ _ _ us hl => on3 (P := fun us => bindArgs _ ⟨us, []⟩ = pure ((zaL 0).zip us)) (fun _ _ _ => rfl) us hl
     m1 := PySem.W.mg_of X G a1
     f1 := zav (st := top 9) l1 e1 k1
     b1 := (zav (st := top 9) l1 e1 k1).binds (ps := zaL 1) fun _ _ _ _ _ _ us hl => on1 (P := fun us => bindArgs _ ⟨us, []⟩ = pure ((zaL 1).zip us)) (fun _ => rfl) us hl
     m2 := PySem.W.mg_of X G a2
     f2 := zav (st := top 10) l2 e2 k2
     b2 := (zav (st := top 10) l2 e2 k2).binds (ps := zaL 2) fun _ _ _ _ _ _ us hl => on1 (P := fun us => bindArgs _ ⟨us, []⟩ = pure ((zaL 2).zip us)) (fun _ => rfl) us hl
     m3 := PySem.W.mg_of X G a3
     f3 := zav (st := top 11) l3 e3 k3
     b3 := (zav (st := top 11) l3 e3 k3).binds (ps := zaL 3) fun _ _ _ _ _ _ us hl => on1 (P := fun us => bindArgs _ ⟨us, []⟩ = pure ((zaL 3).zip us)) (fun _ => rfl) us hl
     m4 := PySem.W.mg_of X G a4
     f4 := zav (st := top 12) l4 e4 k4
     b4 := (zav (st := top 12) l4 e4 k4).binds (ps := zaL 4) fun _ _ _ _ _ _ us hl => on1 (P := fun us => bindArgs _ ⟨us, []⟩ = pure ((zaL 4).zip us)) (fun _ => rfl) us hl
     m5 := PySem.W.mg_of X G a5
     f5 := zav (st := top 13) l5 e5 k5
     b5 := (zav (st := top 13) l5 e5 k5).binds (ps := zaL 5) fun _ _ _ _ _ _ us hl => on1 (P := fun us => bindArgs _ ⟨us, []⟩ = pure ((zaL 5).zip us)) (fun _ => rfl) us hl
     m6 := PySem.W.mg_of X G a6
     f6 := zav (st := top 14) l6 e6 k6
     b6 := (zav (st := top 14) l6 e6 k6).binds (ps := zaL 6) fun _ _ _ _ _ _ us hl => on1 (P := fun us => bindArgs _ ⟨us, []⟩ = pure ((zaL 6).zip us)) (fun _ => rfl) us hl
     m7 := PySem.W.mg_of X G a7
     f7 := zav (st := top 15) l7 e7 k7
     b7 := (zav (st := top 15) l7 e7 k7).binds (ps := zaL 7) fun _ _ _ _ _ _ us hl => on1 (P := fun us => bindArgs _ ⟨us, []⟩ = pure ((zaL 7).zip us)) (fun _ => rfl) us hl
     m9 := PySem.W.mg_of X G a9
     f9 := zav (st := top 17) l9 e9 k9
     b9 := (zav (st := top 17) l9 e9 k9).binds (ps := zaL 9) fun _ _ _ _ _ _ us hl => on2 (P := fun us => bindArgs _ ⟨us, []⟩ = pure ((zaL 9).zip us)) (fun _ _ => rfl) us hl
     m10 := PySem.W.mg_of X G a10
     f10 := zav (st := top 18) l10 e10 k10
     b10 := (zav (st := top 18) l10 e10 k10).binds (ps := zaL 10) fun _ _ _ _ _ _ us hl => on3 (P := fun us => bindArgs _ ⟨us, []⟩ = pure ((zaL 10).zip us)) (fun _ _ _ => rfl) us hl
     m11 := PySem.W.mg_of X G a11
     f11 := zav (st := top 19) l11 e11 k11
     b11 := (zav (st := top 19) l11 e11 k11).binds (ps := zaL 11) fun _ _ _ _ _ _ us hl => on3 (P := fun us => bindArgs _ ⟨us, []⟩ = pure ((zaL 11).zip us)) (fun _ _ _ => rfl) us hl
     m13 := PySem.W.mg_of X G a13
     f13 := zav (st := top 39) l13 e13 k13
     b13 := (zav (st := top 39) l13 e13 k13).binds (ps := zaL 13) fun _ _ _ _ _ _ us hl => on2 (P := fun us => bindArgs _ ⟨us, []⟩ = pure ((zaL 13).zip us)) (fun _ _ => rfl) us hl
     m14 := PySem.W.mg_of X G a14
     f14 := zav (st := top 40) l14 e14 k14
     b14 := (zav (st := top 40) l14 e14 k14).binds (ps := zaL 14) fun _ _ _ _ _ _ us hl => on3 (P := fun us => bindArgs _ ⟨us, []⟩ = pure ((zaL 14).zip us)) (fun _ _ _ => rfl) us hl
     m15 := PySem.W.mg_of X G a15
     f15 := zav (st := top 41) l15 e15 k15
     b15 := (zav (st := top 41) l15 e15 k15).binds (ps := zaL 15) fun _ _ _ _ _ _ us hl => on3 (P := fun us => bindArgs _ ⟨us, []⟩ = pure ((zaL 15).zip us)) (fun _ _ _ => rfl) us hl
     m16 := PySem.W.mg_of X G a16
     f16 := zav (st := top 42) l16 e16 k16
     b16 := (zav (st := top 42) l16 e16 k16).binds (ps := zaL 16) fun _ _ _ _ _ _ us hl => on1 (P := fun us => bindArgs _ ⟨us, []⟩ = pure ((zaL 16).zip us)) (fun _ => rfl) us hl
     m20 := PySem.W.mg_of X G a20
     f20 := zav (st := top 20) l20 e20 k20
     b20 := (zav (st := top 20) l20 e20 k20).binds (ps := zaL 20) fun _ _ _ _ _ _ us hl => on3 (P := fun us => bindArgs _ ⟨us, []⟩ = pure ((zaL 20).zip us)) (fun _ _ _ => rfl) us hl
     m21 := PySem.W.mg_of X G a21
     f21 := zav (st := top 22) l21 e21 k21
     b21 := (zav (st := top 22) l21 e21 k21).binds (ps := zaL 21) fun _ _ _ _ _ _ us hl => on1 (P := fun us => bindArgs _ ⟨us, []⟩ = pure ((zaL 21).zip us)) (fun _ => rfl) us hl
     m22 := PySem.W.mg_of X G a22
     f22 := zav (st := top 23) l22 e22 k22
     b22 := (zav (st := top 23) l22 e22 k22).binds (ps := zaL 22) fun _ _ _ _ _ _ us hl => on1 (P := fun us => bindArgs _ ⟨us, []⟩ = pure ((zaL 22).zip us)) (fun _ => rfl) us hl
     m23 := PySem.W.mg_of X G a23
     f23 := zav (st := top 24) l23 e23 k23
     b23 := (zav (st := top 24) l23 e23 k23).binds (ps := zaL 23) fun _ _ _ _ _ _ us hl => on2 (P := fun us => bindArgs _ ⟨us, []⟩ = pure ((zaL 23).zip us)) (fun _ _ => rfl) us hl
     m24 := PySem.W.mg_of X G a24
     f24 := zav (st := top 25) l24 e24 k24
     b24 := (zav (st := top 25) l24 e24 k24).binds (ps := zaL 24) fun _ _ _ _ _ _ us hl => on3 (P := fun us => bindArgs _ ⟨us, []⟩ = pure ((zaL 24).zip us)) (fun _ _ _ => rfl) us hl
     m25 := PySem.W.mg_of X G a25
     f25 := zav (st := top 27) l25 e25 k25
     b25 := (zav (st := top 27) l25 e25 k25).binds (ps := zaL 25) fun _ _ _ _ _ _ us hl => on2 (P := fun us => bindArgs _ ⟨us, []⟩ = pure ((zaL 25).zip us)) (fun _ _ => rfl) us hl
     m30 := PySem.W.mg_of X G a30
     f30 := zav (st := top 21) l30 e30 k30
     b30 := (zav (st := top 21) l30 e30 k30).binds (ps := zaL 30) fun _ _ _ _ _ _ us hl => on2 (P := fun us => bindArgs _ ⟨us, []⟩ = pure ((zaL 30).zip us)) (fun _ _ => rfl) us hl
     m31 := PySem.W.mg_of X G a31
     f31 := zav (st := top 26) l31 e31 k31
     b31 := (zav (st := top 26) l31 e31 k31).binds (ps := zaL 31) fun _ _ _ _ _ _ us hl => on2 (P := fun us => bindArgs _ ⟨us, []⟩ = pure ((zaL 31).zip us)) (fun _ _ => rfl) us hl
     m37 := PySem.W.mg_of X G a37
     f37 := zav (st := top 29) l37 e37 k37
     b37 := (zav (st := top 29) l37 e37 k37).binds (ps := zaL 37) fun _ _ _ _ _ _ us hl => on5 (P := fun us => bindArgs _ ⟨us, []⟩ = pure ((zaL 37).zip us)) (fun _ _ _ _ _ => rfl) us hl
     m38 := PySem.W.mg_of X G a38
     f38 := zav (st := top 30) l38 e38 k38
     b38 := (zav (st := top 30) l38 e38 k38).binds (ps := zaL 38) fun _ _ _ _ _ _ us hl => on2 (P := fun us => bindArgs _ ⟨us, []⟩ = pure ((zaL 38).zip us)) (fun _ _ => rfl) us hl
     m39 := PySem.W.mg_of X G a39
     f39 := zav (st := top 31) l39 e39 k39
     b39 := (zav (st := top 31) l39 e39 k39).binds (ps := zaL 39) fun _ _ _ _ _ _ us hl => on2 (P := fun us => bindArgs _ ⟨us, []⟩ = pure ((zaL 39).zip us)) (fun _ _ => rfl) us hl
     m40 := PySem.W.mg_of X G a40
     f40 := zav (st := top 32) l40 e40 k40
     b40 := (zav (st := top 32) l40 e40 k40).binds (ps := zaL 40) fun _ _ _ _ _ _ us hl => on4 (P := fun us => bindArgs _ ⟨us, []⟩ = pure ((zaL 40).zip us)) (fun _ _ _ _ => rfl) us hl
     m41 := PySem.W.mg_of X G a41
     f41 := zav (st := top 33) l41 e41 k41
     b41 := (zav (st := top 33) l41 e41 k41).binds (ps := zaL 41) fun _ _ _ _ _ _ us hl => on4 (P := fun us => bindArgs _ ⟨us, []⟩ = pure ((zaL 41).zip us)) (fun _ _ _ _ => rfl) us hl
     m42 := PySem.W.mg_of X G a42
     f42 := zav (st := top 34) l42 e42 k42
     b42 := (zav (st := top 34) l42 e42 k42).binds (ps := zaL 42) fun _ _ _ _ _ _ us hl => on3 (P := fun us => bindArgs _ ⟨us, []⟩ = pure ((zaL 42).zip us)) (fun _ _ _ => rfl) us hl
     m43 := PySem.W.mg_of X G a43
     f43 := zav (st := top 35) l43 e43 k43
     b43 := (zav (st := top 35) l43 e43 k43).binds (ps := zaL 43) fun _ _ _ _ _ _ us hl => on2 (P := fun us => bindArgs _ ⟨us, []⟩ = pure ((zaL 43).zip us)) (fun _ _ => rfl) us hl
     m45 := PySem.W.mg_of X G a45
     f45 := zav (st := top 36) l45 e45 k45
     b45 := (zav (st := top 36) l45 e45 k45).binds (ps := zaL 45) fun _ _ _ _ _ _ us hl => on2 (P := fun us => bindArgs _ ⟨us, []⟩ = pure ((zaL 45).zip us)) (fun _ _ => rfl) us hl
     m47 := PySem.W.mg_of X G a47
     f47 := zav (st := top 37) l47 e47 k47
     b47 := (zav (st := top 37) l47 e47 k47).binds (ps := zaL 47) fun _ _ _ _ _ _ us hl => on2 (P := fun us => bindArgs _ ⟨us, []⟩ = pure ((zaL 47).zip us)) (fun _ _ => rfl) us hl
     m52 := PySem.W.mg_of X G a52
     f52 := zav (st := top 43) l52 e52 k52
     b52 := (zav (st := top 43) l52 e52 k52).binds (ps := zaL 52) fun _ _ _ _ _ _ us hl => on1 (P := fun us => bindArgs _ ⟨us, []⟩ = pure ((zaL 52).zip us)) (fun _ => rfl) us hl
     z_isinstance := PySem.W.mg_none_of X G z_isinstance
     z_int := PySem.W.mg_none_of X G z_int
     z_bool := PySem.W.mg_none_of X G z_bool
     z_len := PySem.W.mg_none_of X G z_len
     z_tuple := PySem.W.mg_none_of X G z_tuple
     z_range := PySem.W.mg_none_of X G z_range
     z_all := PySem.W.mg_none_of X G z_all
     z_abs := PySem.W.mg_none_of X G z_abs
     z_max := PySem.W.mg_none_of X G z_max
     z_min := PySem.W.mg_none_of X G z_min
     z_sorted := PySem.W.mg_none_of X G z_sorted
     z_sum := PySem.W.mg_none_of X G z_sum
     c0 := PySem.W.mg_of X G c0
     c1 := PySem.W.mg_of X G c1
     c2 := PySem.W.mg_of X G c2
   }, rfl, fun s u => .of_eq rfl⟩
end
end LK
namespace LK
open PySem PySem.W L2
noncomputable def en (P : Params) (x : Str) (t : Nat) (v : Value) : DictEntry := ⟨PyData.keyHash P x, .str x t, v⟩
noncomputable def fo (i : Nat) (x m : Str) (t c : Nat) : Obj := ⟨.type "function", none, .func (fnOf x x (zan (top i)) (zag (top i)) (zaa (top i)) .none .none .none (.str m t) none (.ref c) .none), #[]⟩
noncomputable def co (x : Str) (t l a r h : Nat) : Obj := ⟨.type "code", none, .fields #[.str x t, .str x (t + 1), .str "/claim/cut.py" (t + 2), .int l 0, .int a 0, .int 0 0, .int 0 0, .int 3 0, .ref r, .bool true, .int 181 0, .ref (r + 1), .none, .ref (r + 2), .ref (r + 3), .ref (r + 4), .int h 0, .int l 0, .str "/claim/cut.py" (h + 1)], #[]⟩
noncomputable def cn (x : Str) (t l a r h : Nat) : Obj := ⟨.type "code", none, .fields #[.str x t, .str x (t + 1), .str "/claim/cut.py" (t + 2), .int l 0, .int a 0, .int 0 0, .int 0 0, .int 3 0, .ref r, .bool true, .int 181 0, .ref (r + 1), .none, .none, .none, .ref (r + 2), .int h 0, .int l 0, .str "/claim/cut.py" (h + 1)], #[]⟩
noncomputable def HK (P : Params) : Frag := [(3, .mk (.type "dict") none (.dict #[en P "__name__" 165 (.str "law_leaperwalk_k15_whole_pairs_and_peace" 475), en P "__doc__" 166 .none, en P "__package__" 167 .none, en P "__loader__" 168 (.builtin "__main__.__loader__#opaque"), en P "__spec__" 169 .none, en P "__annotations__" 170 (.ref 6), en P "__builtins__" 171 (.ref 4), en P "__file__" 173 (.str "/claim/cut.py" 172), en P "__cached__" 174 .none, en P "LeapError" 206 (.ref 24), en P "BadFloor" 222 (.ref 37), en P "BadLeap" 238 (.ref 49), en P "LAST_LINE" 242 (.int 7 241), en P "MOST_CELLS" 244 (.int 24 243), en P "LONGEST_LEAP" 246 (.int 4 245), en P "is_whole" 255 (.ref 58), en P "is_couple" 262 (.ref 65), en P "is_cell" 269 (.ref 72), en P "is_leap" 276 (.ref 79), en P "is_rising" 282 (.ref 84), en P "is_floor" 288 (.ref 89), en P "checked" 295 (.ref 96), en P "checked_leap" 302 (.ref 103), en P "folded" 312 (.ref 110), en P "are_near" 321 (.ref 117), en P "cells_near" 327 (.ref 122), en P "leads_to" 341 (.ref 129), en P "parts_within" 353 (.ref 136), en P "greatest_divisor" 359 (.ref 141), en P "has_odd_sum" 367 (.ref 148), en P "hue_of" 378 (.ref 155), en P "cells_of_hue" 384 (.ref 160), en P "parts_of" 392 (.ref 167), en P "hues_of" 400 (.ref 174), en P "finds_mate" 414 (.ref 181), en P "all_mates" 424 (.ref 188), en P "pairs_of" 430 (.ref 193), en P "crowd_and_around" 436 (.ref 198), en P "is_in_cover" 446 (.ref 205), en P "cells_by_cover" 452 (.ref 210), en P "most_pairs" 460 (.ref 217), en P "peaceful" 468 (.ref 224), en P "paired" 474 (.ref 229), en P "_law_cell" 484 (.ref 236), en P "_law_mix" 493 (.ref 243), en P "_law_floor" 512 (.ref 250), en P "_law_leap" 520 (.ref 257), en P "law" 526 (.ref 262)] 48) #[]),
  (57, co "is_whole" 247 12 3 52 253),
  (58, fo 8 "is_whole" "leaperwalk.floors" 239 57),
  (64, co "is_couple" 256 16 1 59 260),
  (65, fo 9 "is_couple" "leaperwalk.floors" 239 64),
  (71, co "is_cell" 263 18 1 66 267),
  (72, fo 10 "is_cell" "leaperwalk.floors" 239 71),
  (78, co "is_leap" 270 20 1 73 274),
  (79, fo 11 "is_leap" "leaperwalk.floors" 239 78),
  (83, cn "is_rising" 277 22 1 80 280),
  (84, fo 12 "is_rising" "leaperwalk.floors" 239 83),
  (88, cn "is_floor" 283 24 1 85 286),
  (89, fo 13 "is_floor" "leaperwalk.floors" 239 88),
  (95, co "checked" 289 28 1 90 293),
  (96, fo 14 "checked" "leaperwalk.floors" 239 95),
  (102, co "checked_leap" 296 32 1 97 300),
  (103, fo 15 "checked_leap" "leaperwalk.floors" 239 102),
  (109, co "folded" 305 37 2 104 310),
  (110, fo 17 "folded" "leaperwalk.leaps" 303 109),
  (116, co "are_near" 313 39 3 111 319),
  (117, fo 18 "are_near" "leaperwalk.leaps" 303 116),
  (121, cn "cells_near" 322 41 3 118 325),
  (122, fo 19 "cells_near" "leaperwalk.leaps" 303 121),
  (128, co "leads_to" 328 43 3 123 339),
  (129, fo 20 "leads_to" "leaperwalk.leaps" 303 128),
  (135, co "parts_within" 342 55 2 130 351),
  (136, fo 21 "parts_within" "leaperwalk.leaps" 303 135),
  (140, cn "greatest_divisor" 354 64 1 137 357),
  (141, fo 22 "greatest_divisor" "leaperwalk.leaps" 303 140),
  (147, co "has_odd_sum" 360 66 1 142 365),
  (148, fo 23 "has_odd_sum" "leaperwalk.leaps" 303 147),
  (154, co "hue_of" 368 69 2 149 376),
  (155, fo 24 "hue_of" "leaperwalk.leaps" 303 154),
  (159, cn "cells_of_hue" 379 76 3 156 382),
  (160, fo 25 "cells_of_hue" "leaperwalk.leaps" 303 159),
  (166, co "parts_of" 385 78 2 161 390),
  (167, fo 26 "parts_of" "leaperwalk.leaps" 303 166),
  (173, co "hues_of" 393 82 2 168 398),
  (174, fo 27 "hues_of" "leaperwalk.leaps" 303 173),
  (180, co "finds_mate" 403 87 5 175 412),
  (181, fo 29 "finds_mate" "leaperwalk.pairs" 401 180),
  (187, co "all_mates" 415 96 2 182 422),
  (188, fo 30 "all_mates" "leaperwalk.pairs" 401 187),
  (192, cn "pairs_of" 425 101 2 189 428),
  (193, fo 31 "pairs_of" "leaperwalk.pairs" 401 192),
  (197, cn "crowd_and_around" 431 103 4 194 434),
  (198, fo 32 "crowd_and_around" "leaperwalk.pairs" 401 197),
  (204, co "is_in_cover" 437 117 4 199 444),
  (205, fo 33 "is_in_cover" "leaperwalk.pairs" 401 204),
  (209, cn "cells_by_cover" 447 121 3 206 450),
  (210, fo 34 "cells_by_cover" "leaperwalk.pairs" 401 209),
  (216, co "most_pairs" 453 126 2 211 458),
  (217, fo 35 "most_pairs" "leaperwalk.pairs" 401 216),
  (223, co "peaceful" 461 130 2 218 466),
  (224, fo 36 "peaceful" "leaperwalk.pairs" 401 223),
  (228, cn "paired" 469 132 2 225 472),
  (229, fo 37 "paired" "leaperwalk.pairs" 401 228),
  (235, co "_law_cell" 477 142 2 230 482),
  (236, fo 39 "_law_cell" "law_leaperwalk_k15_whole_pairs_and_peace" 475 235),
  (242, co "_law_mix" 485 146 3 237 491),
  (243, fo 40 "_law_mix" "law_leaperwalk_k15_whole_pairs_and_peace" 475 242),
  (249, co "_law_floor" 494 148 3 244 510),
  (250, fo 41 "_law_floor" "law_leaperwalk_k15_whole_pairs_and_peace" 475 249),
  (256, co "_law_leap" 513 164 1 251 518),
  (257, fo 42 "_law_leap" "law_leaperwalk_k15_whole_pairs_and_peace" 475 256),
  (261, cn "law" 521 167 1 258 524),
  (262, fo 43 "law" "law_leaperwalk_k15_whole_pairs_and_peace" 475 261)]
noncomputable def HA : List Addr := [3, 57, 58, 64, 65, 71, 72, 78, 79, 83, 84, 88, 89, 95, 96, 102, 103, 109, 110, 116, 117, 121, 122, 128, 129, 135, 136, 140, 141, 147, 148, 154, 155, 159, 160, 166, 167, 173, 174, 180, 181, 187, 188, 192, 193, 197, 198, 204, 205, 209, 210, 216, 217, 223, 224, 228, 229, 235, 236, 242, 243, 249, 250, 256, 257, 261, 262]
noncomputable def HQ : Program := view PySem.Challenge.pw_leaperwalk_k15_whole_pairs_and_peace [1, 2, 3, 5, 6, 7, 8, 9, 10, 11, 12, 13, 14, 15, 17, 18, 19, 20, 21, 22, 23, 24, 25, 26, 27, 29, 30, 31, 32, 33, 34, 35, 36, 37, 39, 40, 41, 42, 43]
theorem hka : ∀ P, HA = (HK P).map (·.1) := fun P => by kernel_rfl
noncomputable def HH : Hook := kHook HK HA hka
set_option maxHeartbeats 0 in
theorem zyz : LeftO PySem.Challenge.pw_leaperwalk_k15_whole_pairs_and_peace HQ [] (fun s => xlAt HQ [] s && recOk (RowW.records (OpenRow.toRowW (OpenLaw.row PySem.Challenge.rw_leaperwalk_k15_whole_pairs_and_peace))) s) HH.obs HH.val 3454 := by
  intro w
  kernel_rfl
end LK
open PySem PySem.W PyProof.Rows
set_option maxRecDepth 100000 in
set_option maxHeartbeats 0 in
theorem PySem.Challenge.cw_leaperwalk_k15_whole_pairs_and_peace_holds : PySem.Challenge.rw_leaperwalk_k15_whole_pairs_and_peace.Holds := by
  w_on; o_law
  refine PySem.W.holds_open (XP := XL LK.HQ []) LK.zyz (Hook.of LK.HH) (Hook.keeps LK.HH) (fun s e => xl_of s (Bool.and_eq_true_iff.mp e).1) XL.keeps (by rfl) (by rfl) (by rfl) (fun s e => recFacts_of (Bool.and_eq_true_iff.mp e).2) (by rfl) (by assumption) (by decide +kernel) ⟨rfl, rfl, rfl, rfl, rfl, by decide +kernel⟩ ?hw ?hc
  case hw => w_witness2
  refine L2.zpK (K := LK.HK) (l := PySem.Challenge.rw_leaperwalk_k15_whole_pairs_and_peace) (n := 63) (k := LK.depth) (x := "_law_script") (CX := L2.CX0) (sp := fun K => L2.LW.spA K (L2.LW.zas LK.U LK.zat LK.depth) 52 []) rfl (by decide) rfl ⟨rfl, by decide, by decide⟩ (fun w h Y => Y) ?F ?S ?C
  case F =>
    intro w mg fa h KX G hmg
    have l0 : List.lookup 58 (LK.HK w.params) = some (LK.fo 8 "is_whole" "leaperwalk.floors" 239 57) := by kernel_rfl
    have l1 : List.lookup 65 (LK.HK w.params) = some (LK.fo 9 "is_couple" "leaperwalk.floors" 239 64) := by kernel_rfl
    have l2 : List.lookup 72 (LK.HK w.params) = some (LK.fo 10 "is_cell" "leaperwalk.floors" 239 71) := by kernel_rfl
    have l3 : List.lookup 79 (LK.HK w.params) = some (LK.fo 11 "is_leap" "leaperwalk.floors" 239 78) := by kernel_rfl
    have l4 : List.lookup 84 (LK.HK w.params) = some (LK.fo 12 "is_rising" "leaperwalk.floors" 239 83) := by kernel_rfl
    have l5 : List.lookup 89 (LK.HK w.params) = some (LK.fo 13 "is_floor" "leaperwalk.floors" 239 88) := by kernel_rfl
    have l6 : List.lookup 96 (LK.HK w.params) = some (LK.fo 14 "checked" "leaperwalk.floors" 239 95) := by kernel_rfl
    have l7 : List.lookup 103 (LK.HK w.params) = some (LK.fo 15 "checked_leap" "leaperwalk.floors" 239 102) := by kernel_rfl
    have l9 : List.lookup 110 (LK.HK w.params) = some (LK.fo 17 "folded" "leaperwalk.leaps" 303 109) := by kernel_rfl
    have l10 : List.lookup 117 (LK.HK w.params) = some (LK.fo 18 "are_near" "leaperwalk.leaps" 303 116) := by kernel_rfl
    have l11 : List.lookup 122 (LK.HK w.params) = some (LK.fo 19 "cells_near" "leaperwalk.leaps" 303 121) := by kernel_rfl
    have l13 : List.lookup 236 (LK.HK w.params) = some (LK.fo 39 "_law_cell" "law_leaperwalk_k15_whole_pairs_and_peace" 475 235) := by kernel_rfl
    have l14 : List.lookup 243 (LK.HK w.params) = some (LK.fo 40 "_law_mix" "law_leaperwalk_k15_whole_pairs_and_peace" 475 242) := by kernel_rfl
    have l15 : List.lookup 250 (LK.HK w.params) = some (LK.fo 41 "_law_floor" "law_leaperwalk_k15_whole_pairs_and_peace" 475 249) := by kernel_rfl
    have l16 : List.lookup 257 (LK.HK w.params) = some (LK.fo 42 "_law_leap" "law_leaperwalk_k15_whole_pairs_and_peace" 475 256) := by kernel_rfl
    have l20 : List.lookup 129 (LK.HK w.params) = some (LK.fo 20 "leads_to" "leaperwalk.leaps" 303 128) := by kernel_rfl
    have l21 : List.lookup 141 (LK.HK w.params) = some (LK.fo 22 "greatest_divisor" "leaperwalk.leaps" 303 140) := by kernel_rfl
    have l22 : List.lookup 148 (LK.HK w.params) = some (LK.fo 23 "has_odd_sum" "leaperwalk.leaps" 303 147) := by kernel_rfl
    have l23 : List.lookup 155 (LK.HK w.params) = some (LK.fo 24 "hue_of" "leaperwalk.leaps" 303 154) := by kernel_rfl
    have l24 : List.lookup 160 (LK.HK w.params) = some (LK.fo 25 "cells_of_hue" "leaperwalk.leaps" 303 159) := by kernel_rfl
    have l25 : List.lookup 174 (LK.HK w.params) = some (LK.fo 27 "hues_of" "leaperwalk.leaps" 303 173) := by kernel_rfl
    have l30 : List.lookup 136 (LK.HK w.params) = some (LK.fo 21 "parts_within" "leaperwalk.leaps" 303 135) := by kernel_rfl
    have l31 : List.lookup 167 (LK.HK w.params) = some (LK.fo 26 "parts_of" "leaperwalk.leaps" 303 166) := by kernel_rfl
    have l37 : List.lookup 181 (LK.HK w.params) = some (LK.fo 29 "finds_mate" "leaperwalk.pairs" 401 180) := by kernel_rfl
    have l38 : List.lookup 188 (LK.HK w.params) = some (LK.fo 30 "all_mates" "leaperwalk.pairs" 401 187) := by kernel_rfl
    have l39 : List.lookup 193 (LK.HK w.params) = some (LK.fo 31 "pairs_of" "leaperwalk.pairs" 401 192) := by kernel_rfl
    have l40 : List.lookup 198 (LK.HK w.params) = some (LK.fo 32 "crowd_and_around" "leaperwalk.pairs" 401 197) := by kernel_rfl
    have l41 : List.lookup 205 (LK.HK w.params) = some (LK.fo 33 "is_in_cover" "leaperwalk.pairs" 401 204) := by kernel_rfl
    have l42 : List.lookup 210 (LK.HK w.params) = some (LK.fo 34 "cells_by_cover" "leaperwalk.pairs" 401 209) := by kernel_rfl
    have l43 : List.lookup 217 (LK.HK w.params) = some (LK.fo 35 "most_pairs" "leaperwalk.pairs" 401 216) := by kernel_rfl
    have l45 : List.lookup 224 (LK.HK w.params) = some (LK.fo 36 "peaceful" "leaperwalk.pairs" 401 223) := by kernel_rfl
    have l47 : List.lookup 229 (LK.HK w.params) = some (LK.fo 37 "paired" "leaperwalk.pairs" 401 228) := by kernel_rfl
    have l52 : List.lookup 262 (LK.HK w.params) = some (LK.fo 43 "law" "law_leaperwalk_k15_whole_pairs_and_peace" 475 261) := by kernel_rfl
    obtain ⟨F, FD, TK, T, e0, hb⟩ := LK.zwe (t0 := 241) (t1 := 243) (t2 := 245) KX G (by kernel_rfl) l0 (by kernel_rfl) (by kernel_rfl) (by kernel_rfl) l1 (by kernel_rfl) (by kernel_rfl) (by kernel_rfl) l2 (by kernel_rfl) (by kernel_rfl) (by kernel_rfl) l3 (by kernel_rfl) (by kernel_rfl) (by kernel_rfl) l4 (by kernel_rfl) (by kernel_rfl) (by kernel_rfl) l5 (by kernel_rfl) (by kernel_rfl) (by kernel_rfl) l6 (by kernel_rfl) (by kernel_rfl) (by kernel_rfl) l7 (by kernel_rfl) (by kernel_rfl) (by kernel_rfl) l9 (by kernel_rfl) (by kernel_rfl) (by kernel_rfl) l10 (by kernel_rfl) (by kernel_rfl) (by kernel_rfl) l11 (by kernel_rfl) (by kernel_rfl) (by kernel_rfl) l13 (by kernel_rfl) (by kernel_rfl) (by kernel_rfl) l14 (by kernel_rfl) (by kernel_rfl) (by kernel_rfl) l15 (by kernel_rfl) (by kernel_rfl) (by kernel_rfl) l16 (by kernel_rfl) (by kernel_rfl) (by kernel_rfl) l20 (by kernel_rfl) (by kernel_rfl) (by kernel_rfl) l21 (by kernel_rfl) (by kernel_rfl) (by kernel_rfl) l22 (by kernel_rfl) (by kernel_rfl) (by kernel_rfl) l23 (by kernel_rfl) (by kernel_rfl) (by kernel_rfl) l24 (by kernel_rfl) (by kernel_rfl) (by kernel_rfl) l25 (by kernel_rfl) (by kernel_rfl) (by kernel_rfl) l30 (by kernel_rfl) (by kernel_rfl) (by kernel_rfl) l31 (by kernel_rfl) (by kernel_rfl) (by kernel_rfl) l37 (by kernel_rfl) (by kernel_rfl) (by kernel_rfl) l38 (by kernel_rfl) (by kernel_rfl) (by kernel_rfl) l39 (by kernel_rfl) (by kernel_rfl) (by kernel_rfl) l40 (by kernel_rfl) (by kernel_rfl) (by kernel_rfl) l41 (by kernel_rfl) (by kernel_rfl) (by kernel_rfl) l42 (by kernel_rfl) (by kernel_rfl) (by kernel_rfl) l43 (by kernel_rfl) (by kernel_rfl) (by kernel_rfl) l45 (by kernel_rfl) (by kernel_rfl) (by kernel_rfl) l47 (by kernel_rfl) (by kernel_rfl) (by kernel_rfl) l52 (by kernel_rfl) (by kernel_rfl) (by kernel_rfl) (by kernel_rfl) (by kernel_rfl) (by kernel_rfl) (by kernel_rfl) (by kernel_rfl) (by kernel_rfl) (by kernel_rfl) (by kernel_rfl) (by kernel_rfl) (by kernel_rfl) (by kernel_rfl) (by kernel_rfl) (by kernel_rfl) (by kernel_rfl)
    have e1 := hmg.symm.trans T.m52
    cases e1
    exact ⟨_, hb, fun base _ _ => LK.za4 T LK.depth 52⟩
  case S => exact fun K H a ns hl _ hS => L2.LW.zuy (LK.zjE ns hl) hS
  case C => exact fun _ _ _ _ z => z
