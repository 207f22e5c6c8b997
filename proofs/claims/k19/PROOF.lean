import PyProof.Rows.All
import Wide.All
import OpenK.AllK
import Wide.FinOn
import Lean
import PyProof.EqAt
import PyProof.EqKinds
import PyProof.TupleCall
import PyProof.SeqI3
import KE.KTupSum
import KE.LcSums
import KE.KDictSum
import KE.KTryMore
import PyProof.ExcBaseAll.ValueError
import OpenK.KOwn
import KE.RegKTryMore
import KE.RegKIsAll
import PyProof.ListMulRoad
import PyProof.Draws
import PyProof.EnumStmt
import PyProof.EnumMake
import PyProof.StrLawsTight
import PyProof.StrLawsChain
import PyProof.Rows.StrNews
import PyProof.Rows.StrJoin2
import PyProof.Rows.EnumRows
import PyProof.FString
import KE.KRevIter
import PyProof.StrLawsIn
import PyProof.StrBlock2
import PyProof.StrBlockG
import PyProof.Rows.StrClip
import PyProof.Rows.StrSliceCases
import PySem.Challenge.RW_leaperwalk_k19_spoilt_texts
set_option Elab.async false
set_option linter.all false
set_option maxRecDepth 100000
theorem jo1 {a b : Type} {x : Option a} {f : a → Option b} {y : b} : x.bind f = some y ↔ ∃ z, x = some z ∧ f z = some y := Option.bind_eq_some_iff
theorem jo2 {a b : Type} {x : Option a} {f : a → b} {y : b} : x.map f = some y ↔ ∃ z, x = some z ∧ f z = y := Option.map_eq_some_iff
set_option Elab.async false
set_option maxRecDepth 100000
namespace L2
open PySem PySem.Spec PyProof.Rows
noncomputable abbrev zG := Sum Int Str
noncomputable def je : zG → Value → Bool
  | .inl k, v => Value.isInt k v
  | .inr x, v => Value.isStrOf x v
noncomputable def zbI (w : World) : zG → Int
  | .inl k => hashInt k
  | .inr x => hashStr w x
theorem wM : ∀ {k : zG} {v : Value}, je k v = true → (∃ i t, k = Sum.inl i ∧ v = Value.int i t) ∨ (∃ x t, k = Sum.inr x ∧ v = Value.str x t)
  | .inl i, v, h => by
    obtain ⟨t, e⟩ := Value.isInt_shape (k := i) (v := v) h
    exact .inl ⟨i, t, rfl, e⟩
  | .inr x, v, h => by
    obtain ⟨t, e⟩ := Value.isStrOf_shape (x := x) (v := v) h
    exact .inr ⟨x, t, rfl, e⟩
theorem zbJ (i : Int) (t : Tok) : je (.inl i) (.int i t) = true := by simp [je, Value.isInt]
theorem zbK (x : Str) (t : Tok) : je (.inr x) (.str x t) = true := by simp [je, Value.isStrOf]
theorem zbL (a b : Int) : decide ((Sum.inl a : zG) = Sum.inl b) = (a == b) := by
  by_cases e : a = b
  · subst e; simp
  · have h : ¬ (Sum.inl a : zG) = Sum.inl b := fun q => e (Sum.inl.inj q)
    rw [decide_eq_false h]
    exact (beq_eq_false_iff_ne.mpr e).symm
theorem zbM (a b : Str) : decide ((Sum.inr a : zG) = Sum.inr b) = decide (a = b) := by
  by_cases e : a = b
  · subst e; simp
  · have h : ¬ (Sum.inr a : zG) = Sum.inr b := fun q => e (Sum.inr.inj q)
    rw [decide_eq_false h, decide_eq_false e]
theorem zbN (a : Int) (b : Str) : decide ((Sum.inl a : zG) = Sum.inr b) = false := decide_eq_false (fun q => nomatch q)
theorem zbO (a : Str) (b : Int) : decide ((Sum.inr a : zG) = Sum.inl b) = false := decide_eq_false (fun q => nomatch q)
noncomputable def wk (prog : Program) (w : World) : PySem.KeyKind prog w zG where
  is := je
  hash := zbI w
  inj := fun v a b ha hb => by
    rcases wM ha with ⟨i, t, rfl, rfl⟩ | ⟨x, t, rfl, rfl⟩
    · rcases wM hb with ⟨j, u, rfl, e⟩ | ⟨y, u, rfl, e⟩
      · injection e with e1 _; rw [e1]
      · exact nomatch e
    · rcases wM hb with ⟨j, u, rfl, e⟩ | ⟨y, u, rfl, e⟩
      · exact nomatch e
      · injection e with e1 _; rw [e1]
  byValue := fun k v h => by
    rcases wM h with ⟨i, t, rfl, rfl⟩ | ⟨x, t, rfl, rfl⟩ <;> rfl
  pyHash := fun hv h => by
    rcases wM hv with ⟨i, t, rfl, rfl⟩ | ⟨x, t, rfl, rfl⟩
    · exact wpAny_pyHash_int h
    · exact wpAny_pyHash_str h
  eqBool := fun hu hv h => by
    rcases wM hu with ⟨i, t, rfl, rfl⟩ | ⟨x, t, rfl, rfl⟩
    · rcases wM hv with ⟨j, u, rfl, rfl⟩ | ⟨y, u, rfl, rfl⟩
      · rw [zbL] at h; exact wpAny_eqBool_int h
      · rw [zbN] at h; exact SeqAt.EqAt.int_str i t y u _ _ _ _ h
    · rcases wM hv with ⟨j, u, rfl, rfl⟩ | ⟨y, u, rfl, rfl⟩
      · rw [zbO] at h; exact SeqAt.EqAt.str_int x t j u _ _ _ _ h
      · rw [zbM] at h; exact wpAny_eqBool_str h
  «strs» := fun k x t v h => by
    rcases wM h with ⟨i, u, rfl, e⟩ | ⟨y, u, rfl, e⟩
    · exact nomatch e
    · injection e with e1 _
      subst e1
      cases v <;> rfl
theorem zbP (prog : Program) (w : World) (i : Int) (t : Tok) : (wk prog w).is (.inl i) (.int i t) = true := zbJ i t
theorem zbQ (prog : Program) (w : World) (x : Str) (t : Tok) : (wk prog w).is (.inr x) (.str x t) = true := zbK x t
end L2
namespace L2
open PySem PySem.Spec PyProof.Rows
inductive V where
  | non | bl (b : Bool) | int (i : Int) | str (x : Str) | byt (b : Array UInt8) | flt (b : UInt64) | ref (a : Addr) | ty (n : String)
  deriving DecidableEq
noncomputable def RelV : V → Value → Prop
  | .non, u => u = Value.none
  | .bl b, u => u = Value.bool b
  | .int i, u => ∃ t, u = Value.int i t
  | .str x, u => ∃ t, u = Value.str x t
  | .byt b, u => ∃ t, u = Value.bytes b t
  | .flt b, u => ∃ t, u = Value.float b t
  | .ref a, u => u = Value.ref a
  | .ty n, u => u = Value.type n
noncomputable abbrev Vals : List V → List Value → Prop := Paired RelV
theorem Vals.length {xs : List V} {us : List Value} (r : Vals xs us) : xs.length = us.length := Paired.length r
theorem Vals.get : ∀ {xs : List V} {us : List Value} {i : Nat} {x : V}, Vals xs us → xs[i]? = some x → ∃ u, us[i]? = some u ∧ RelV x u
  | _, _, _, _, .nil, e => by simp at e
  | _, _, 0, _, .cons r _, e => by simp at e; subst e; exact ⟨_, rfl, r⟩
  | _, _, i + 1, x, .cons _ t, e => by
    obtain ⟨u, h1, h2⟩ := Vals.get (i := i) (x := x) t (by simpa using e)
    exact ⟨u, by simpa using h1, h2⟩
theorem Vals.set {x : V} {u : Value} (r : RelV x u) : ∀ {xs : List V} {us : List Value} (i : Nat), Vals xs us → Vals (xs.set i x) (us.set i u)
  | _, _, _, .nil => .nil
  | _, _, 0, .cons _ t => .cons r t
  | _, _, i + 1, .cons q t => .cons q (Vals.set r i t)
theorem Vals.append : ∀ {xs ys : List V} {us ws : List Value}, Vals xs us → Vals ys ws → Vals (xs ++ ys) (us ++ ws)
  | _, _, _, _, .nil, s => s
  | _, _, _, _, .cons r t, s => .cons r (Vals.append t s)
theorem Vals.take : ∀ {xs : List V} {us : List Value} (n : Nat), Vals xs us → Vals (xs.take n) (us.take n)
  | _, _, 0, _ => .nil
  | _, _, _ + 1, .nil => .nil
  | _, _, n + 1, .cons r t => .cons r (Vals.take n t)
theorem Vals.drop : ∀ {xs : List V} {us : List Value} (n : Nat), Vals xs us → Vals (xs.drop n) (us.drop n)
  | _, _, 0, r => r
  | _, _, _ + 1, .nil => .nil
  | _, _, n + 1, .cons _ t => Vals.drop n t
noncomputable def RelO : Option V → Option Value → Prop
  | some v, some u => RelV v u
  | none, none => True
  | _, _ => False
noncomputable def KV {κ : Type} : List (κ × V) → List (κ × Value) → Prop := Paired fun (p : κ × V) (q : κ × Value) => p.1 = q.1 ∧ RelV p.2 q.2
noncomputable def kV : zG → V
  | .inl i => .int i
  | .inr x => .str x
inductive HO where
  | lst (xs : List V)
  | tup (xs : List V)
  | dK (kvs : List (zG × V)) | dT (kvs : List (List zG × V))
  | set (S : Int → Bool) (n : Nat)
  | ins (C dx : Addr) (fs : List (Str × V))
  | own (x : Addr)
  | xd (fs : List (Str × V))
  | met (f x : Addr)
  | rng (lo hi : Int)
  | frz (o : Obj) (u : HO)
  | tbl (ps : Array Value)
  | ext (φ : Heap → Prop)
noncomputable abbrev Hp := Addr → Option HO
noncomputable def zJ (H : Hp) (a : Addr) (o : HO) : Hp := fun b => if b = a then some o else H b
theorem wm {H : Hp} {a : Addr} {o : HO} : zJ H a o a = some o := by unfold zJ; rw [if_pos rfl]
theorem zL {H : Hp} {a b : Addr} {o : HO} (h : b ≠ a) : zJ H a o b = H b := by unfold zJ; rw [if_neg h]
theorem jf {H : Hp} {a b : Addr} {o : HO} (h : H a = some o) (h' : H b = none) : a ≠ b := by
  intro e; subst e; rw [h] at h'; cases h'
section
variable (P : Program) (w : World)
noncomputable def ObjOk (H : Hp) (h : Heap) (a : Addr) : HO → Prop
  | .lst xs => xs.length ≤ sizeLine ∧ ∃ (its : List Value) (n : Nat), Vals xs its ∧ h.get? a = some { cls := .type "list", data := .seq its.toArray n }
  | .tup xs => xs.length ≤ sizeLine ∧ ∃ its : List Value, Vals xs its ∧ IsTup h a its.toArray
  | .dK kvs => kvs.length ≤ sizeLine ∧ (a == sysModules) = false ∧ ∃ vs, KV kvs vs ∧ h.DictOf (wk P w) a vs
  | .dT kvs => kvs.length ≤ sizeLine ∧ (a == sysModules) = false ∧ ∃ xs : List (List zG × Addr × Value),
      Paired (fun (p : List zG × V) (q : List zG × Addr × Value) => p.1 = q.1 ∧ H q.2.1 = some (.tup (p.1.map kV)) ∧ RelV p.2 q.2.2) kvs xs ∧
      ∃ o es ep, h.get? a = some o ∧ o.ExactDict ∧ o.data = .dict es ep ∧ es.toList = xs.map (entryOfKey (tupleKind (wk P w))) ∧ (xs.map (·.1)).Nodup
  | .set S n => h.SetOf (intKind P w) a S n
  | .ins C dx fs => H dx = some (.own a) ∧ fs.length ≤ 1000 ∧ dx ≠ a ∧ h.get? a = some (PySem.W.instObj C dx) ∧
      ∃ mA, h.Ns1 dx mA ∧ (∀ f, RelO (fs.lookup f) (mA f)) ∧ PySem.Within mA (fs.map (·.1))
  | .own _ => ∃ o, h.get? a = some o
  | .xd fs => ∃ mA, h.Ns1 a mA ∧ ∀ f, RelO (fs.lookup f) (mA f)
  | .rng lo hi => ∃ t u v, h.get? a = some { cls := .type "range", data := .fields #[.int lo t, .int hi u, .int 1 v] }
  | .frz o u => h.get? a = some o ∧ ObjOk H h a u
  | .tbl ps => h.get? a = some { cls := .none, data := .fields ps }
  | .met f x => h.get? a = some (PySem.W.methodObj (.ref f) (.ref x))
  | .ext φ => φ h ∧ (∃ o, h.get? a = some o) ∧ ∀ h1 h2 : Heap, φ h1 → (∀ o, h1.get? a = some o → h2.get? a = some o) → φ h2
noncomputable def HOk (H : Hp) (h : Heap) : Prop := ∀ a o, H a = some o → ObjOk P w H h a o
end
section
variable {P : Program} {w : World} {H H' : Hp} {h h' : Heap} {a : Addr} {o : HO}
theorem ObjOk.lt (x : ObjOk P w H h a o) : a < h.objs.size := by
  cases o with
  | lst xs => obtain ⟨_, _, _, _, e⟩ := x; exact Heap.lt_size e
  | tup xs => obtain ⟨_, _, _, p⟩ := x; exact p.lt
  | dK kvs => obtain ⟨_, _, _, _, o, _, _, e, _⟩ := x; exact Heap.lt_size e
  | dT kvs => obtain ⟨_, _, _, _, o, _, _, e, _⟩ := x; exact Heap.lt_size e
  | set S n => obtain ⟨o, _, _, _, e, _⟩ := x; exact Heap.lt_size e
  | ins C dx fs => obtain ⟨_, _, _, e, _⟩ := x; exact Heap.lt_size e
  | own y => obtain ⟨_, e⟩ := x; exact Heap.lt_size e
  | xd fs => obtain ⟨_, ⟨_, _, _, e, _⟩, _⟩ := x; exact Heap.lt_size e
  | rng lo hi => obtain ⟨_, _, _, e⟩ := x; exact Heap.lt_size e
  | frz ob u => obtain ⟨e, _⟩ := x; exact Heap.lt_size e
  | tbl ps => exact Heap.lt_size (show h.get? a = some _ from x)
  | met f y => exact Heap.lt_size (show h.get? a = some _ from x)
  | ext φ => obtain ⟨_, ⟨_, e⟩, _⟩ := x; exact Heap.lt_size e
theorem Paired.mapP {α β : Type} {F G : α → β → Prop} : ∀ {l₁ : List α} {l₂ : List β}, Paired F l₁ l₂ → (∀ a b, F a b → G a b) → Paired G l₁ l₂
  | _, _, .nil, _ => .nil
  | _, _, .cons r t, f => .cons (f _ _ r) (Paired.mapP t f)
theorem ObjOk.stay (x : ObjOk P w H h a o) (k : ∀ b u, (b = a ∨ H b = some (.own a)) → h.get? b = some u → h'.get? b = some u)
    (ho : ∀ b, H b = some (.own a) → H' b = some (.own a)) (ht : ∀ b xs, H b = some (.tup xs) → H' b = some (.tup xs)) : ObjOk P w H' h' a o := by
  induction o with
  | lst xs => obtain ⟨z, its, n, r, e⟩ := x; exact ⟨z, its, n, r, k _ _ (.inl rfl) e⟩
  | tup xs => obtain ⟨z, its, r, ob, e, c⟩ := x; exact ⟨z, its, r, ob, k _ _ (.inl rfl) e, c⟩
  | dK kvs => obtain ⟨z, y, vs, r, ob, es, ep, e, c⟩ := x; exact ⟨z, y, vs, r, ob, es, ep, k _ _ (.inl rfl) e, c⟩
  | dT kvs =>
    obtain ⟨z, y, xs, r, ob, es, ep, e, c⟩ := x
    exact ⟨z, y, xs, Paired.mapP r fun p q z => ⟨z.1, ht _ _ z.2.1, z.2.2⟩, ob, es, ep, k _ _ (.inl rfl) e, c⟩
  | set S n => obtain ⟨ob, es, ep, t, e, c⟩ := x; exact ⟨ob, es, ep, t, k _ _ (.inl rfl) e, c⟩
  | ins C dx fs =>
    obtain ⟨d, z, ne, e, mA, ⟨od, es, ep, e2, c⟩, r⟩ := x
    exact ⟨ho _ d, z, ne, k _ _ (.inl rfl) e, mA, ⟨od, es, ep, k _ _ (.inr d) e2, c⟩, r⟩
  | own y => obtain ⟨ob, e⟩ := x; exact ⟨ob, k _ _ (.inl rfl) e⟩
  | xd fs => obtain ⟨mA, ⟨od, es, ep, e, c⟩, r⟩ := x; exact ⟨mA, ⟨od, es, ep, k _ _ (.inl rfl) e, c⟩, r⟩
  | rng lo hi => obtain ⟨t, u, v, e⟩ := x; exact ⟨t, u, v, k _ _ (.inl rfl) e⟩
  | frz ob u ih => obtain ⟨e, q⟩ := x; exact ⟨k _ _ (.inl rfl) e, ih q⟩
  | tbl ps =>
    have e : h.get? a = some { cls := .none, data := .fields ps } := x
    show h'.get? a = some { cls := .none, data := .fields ps }
    exact k a _ (.inl rfl) e
  | met f y =>
    have e : h.get? a = some (PySem.W.methodObj (.ref f) (.ref y)) := x
    show h'.get? a = some (PySem.W.methodObj (.ref f) (.ref y))
    exact k a _ (.inl rfl) e
  | ext φ => obtain ⟨p, ⟨o, e⟩, st⟩ := x; exact ⟨st _ _ p fun o q => k _ _ (.inl rfl) q, ⟨o, k _ _ (.inl rfl) e⟩, st⟩
theorem HOk.lt (x : HOk P w H h) (e : H a = some o) : a < h.objs.size := (x a o e).lt
theorem HOk.fresh (x : HOk P w H h) (e : h.objs.size ≤ a) : H a = none := by
  cases q : H a with
  | none => rfl
  | some u => exact absurd (Nat.lt_of_lt_of_le (x.lt q) e) (Nat.lt_irrefl _)
theorem HOk.kept (x : HOk P w H h) (k : ∀ b u, h.get? b = some u → h'.get? b = some u) : HOk P w H h' := fun a o e =>
  (x a o e).stay (fun b u _ q => k b u q) (fun _ q => q) fun _ _ q => q
theorem HOk.laid (x : HOk P w H h) (k : ∀ b u, h.get? b = some u → h'.get? b = some u) (hp : h.objs.size ≤ a) (new : ObjOk P w (zJ H a o) h' a o) : HOk P w (zJ H a o) h' := fun b u e => by
  have hn := x.fresh hp
  by_cases hb : b = a
  · subst hb; rw [wm] at e; cases e; exact new
  · rw [zL hb] at e
    exact (x b u e).stay (fun c v _ q => k c v q) (fun c q => by rw [zL (jf q hn)]; exact q) fun c xs q => by rw [zL (jf q hn)]; exact q
end
noncomputable def Rd (H : Hp) (a : Addr) (u : HO) : Prop := H a = some u ∨ ∃ o, H a = some (.frz o u)
theorem Rd.of {H : Hp} {a : Addr} {u : HO} (h : H a = some u) : Rd H a u := .inl h
theorem Rd.ok {P : Program} {w : World} {H : Hp} {h : Heap} {a : Addr} {u : HO} (r : Rd H a u) (x : HOk P w H h) : ObjOk P w H h a u := by
  rcases r with r | ⟨o, r⟩
  · exact x a u r
  · obtain ⟨_, q⟩ := x a _ r
    exact q
noncomputable def Yh : Option HO → Prop
  | some (.lst _) => True
  | some (.dK _) => True
  | some (.dT _) => True
  | some (.set _ _) => True
  | some (.ins _ _ _) => True
  | some (.ext _) => True
  | _ => False
section
variable {P : Program} {w : World} {H : Hp} {h h' : Heap} {x e : Addr} {o' : HO}
theorem HOk.write (ok : HOk P w H h) (mu : Yh (H x)) (he : e = x ∨ H e = some (.own x)) (k : ∀ b u, b ≠ e → h.get? b = some u → h'.get? b = some u) (heo : ∃ u, h'.get? e = some u)
    (new : ObjOk P w (zJ H x o') h' x o') : HOk P w (zJ H x o') h' := fun b u q => by
  have nown : ∀ c y, H c = some (.own y) → c ≠ x := fun c y r z => by subst z; rw [r] at mu; exact mu
  have ntup : ∀ c xs, H c = some (.tup xs) → c ≠ x := fun c xs r z => by subst z; rw [r] at mu; exact mu
  by_cases hb : b = x
  · subst hb; rw [wm] at q; cases q; exact new
  · rw [zL hb] at q
    by_cases hbe : b = e
    · have q' : H b = some (.own x) := by
        rcases he with z | z
        · exact absurd (hbe.trans z) hb
        · rw [hbe]; exact z
      rw [q] at q'; cases q'
      obtain ⟨v, hv⟩ := heo
      exact ⟨v, by rw [hbe]; exact hv⟩
    · refine (ok b u q).stay (fun c v hc r => k c v ?_ r) (fun c r => by rw [zL (nown c b r)]; exact r) fun c xs r => by rw [zL (ntup c xs r)]; exact r
      rcases hc with rfl | hc
      · exact hbe
      · rintro rfl
        rcases he with z | z
        · exact nown c b hc z
        · rw [hc] at z; cases z; exact hb rfl
end
structure Un (fs ex : List Addr) (H H' : Hp) (h h' : Heap) : Prop where
  keep : ∀ b o, h.get? b = some o → H b = none → b ∉ fs → b ∉ ex → h'.get? b = some o
  slot : ∀ b o, h.get? b = some o → H b = none → b ∈ fs → b ∉ ex → ∃ sl, h'.get? b = some { o with slots := sl }
  free : ∀ b o, h.get? b = some o → H b = none → b ∉ ex → H' b = none
  there : ∀ b o, h.get? b = some o → b ∉ ex → ∃ o', h'.get? b = some o'
  tups : ∀ b xs, H b = some (.tup xs) → H' b = some (.tup xs)
  frzs : ∀ b o u, H b = some (.frz o u) → H' b = some (.frz o u)
  tbls : ∀ b ps, H b = some (.tbl ps) → ∃ more, H' b = some (.tbl (ps ++ more))
section
variable {fs fs' ex ex' : List Addr} {H H1 H2 : Hp} {h h1 h2 h' : Heap} {a x e : Addr} {o : HO}
theorem Un.any (u : Un fs ex H H1 h h1) {b : Addr} {ob : Obj} (q : h.get? b = some ob) (n : H b = none) (hx : b ∉ ex) : ∃ sl, h1.get? b = some { ob with slots := sl } := by
  by_cases hb : b ∈ fs
  · exact u.slot b ob q n hb hx
  · exact ⟨ob.slots, u.keep b ob q n hb hx⟩
theorem Un.trans (a : Un fs ex H H1 h h1) (b : Un fs ex H1 H2 h1 h2) : Un fs ex H H2 h h2 where
  keep := fun c ob q n hc hx => b.keep c ob (a.keep c ob q n hc hx) (a.free c ob q n hx) hc hx
  slot := fun c ob q n hc hx => by
    obtain ⟨sl, e1⟩ := a.slot c ob q n hc hx
    obtain ⟨sl', e2⟩ := b.slot c _ e1 (a.free c ob q n hx) hc hx
    exact ⟨sl', e2⟩
  free := fun c ob q n hx => by
    obtain ⟨o', e1⟩ := a.there c ob q hx
    exact b.free c o' e1 (a.free c ob q n hx) hx
  there := fun c ob q hx => by
    obtain ⟨o', e1⟩ := a.there c ob q hx
    exact b.there c o' e1 hx
  tups := fun c xs q => b.tups c xs (a.tups c xs q)
  frzs := fun c ob xs q => b.frzs c ob xs (a.frzs c ob xs q)
  tbls := fun c ps q => by
    obtain ⟨m1, e1⟩ := a.tbls c ps q
    obtain ⟨m2, e2⟩ := b.tbls c _ e1
    exact ⟨m1 ++ m2, by rw [e2, Array.append_assoc]⟩
theorem Un.kept (k : ∀ b u, h.get? b = some u → h'.get? b = some u) : Un fs ex H H h h' :=
  ⟨fun b ob q _ _ _ => k b ob q, fun b ob q _ _ _ => ⟨ob.slots, k b ob q⟩, fun _ _ _ n _ => n, fun b ob q _ => ⟨ob, k b ob q⟩, fun _ _ q => q, fun _ _ _ q => q, fun _ ps q => ⟨#[], by rw [q]; simp⟩⟩
theorem Un.refl : Un fs ex H H h h := Un.kept fun _ _ q => q
theorem Un.laid (k : ∀ b u, h.get? b = some u → h'.get? b = some u) (hp : h.objs.size ≤ a) (hn : H a = none) : Un fs ex H (zJ H a o) h h' where
  keep := fun b u q _ _ _ => k b u q
  slot := fun b u q _ _ _ => ⟨u.slots, k b u q⟩
  free := fun b u q n _ => by rw [zL (Nat.ne_of_lt (Nat.lt_of_lt_of_le (Heap.lt_size q) hp))]; exact n
  there := fun b u q _ => ⟨u, k b u q⟩
  tups := fun b xs q => by rw [zL (jf q hn)]; exact q
  frzs := fun b u xs q => by rw [zL (jf q hn)]; exact q
  tbls := fun b ps q => ⟨#[], by rw [zL (jf q hn), q]; simp⟩
theorem Un.write (mu : Yh (H x)) (he : e = x ∨ H e = some (.own x)) (k : ∀ b u, b ≠ e → h.get? b = some u → h'.get? b = some u) (heo : ∃ u, h'.get? e = some u) : Un fs ex H (zJ H x o) h h' := by
  have hx : ∀ b, H b = none → b ≠ x := fun b n z => by subst z; rw [n] at mu; exact mu
  have hb : ∀ b, H b = none → b ≠ e := fun b n z => by
    subst z
    rcases he with r | r
    · exact hx b n r
    · rw [n] at r; cases r
  have hm : ∀ b u, H b = some u → ¬ Yh (some u) → b ≠ x := fun b u q nm z => by subst z; rw [q] at mu; exact nm mu
  refine ⟨fun b u q n _ _ => k b u (hb b n) q, fun b u q n _ _ => ⟨u.slots, k b u (hb b n) q⟩, fun b u q n _ => by rw [zL (hx b n)]; exact n, fun b u q _ => ?_,
    fun b xs q => by rw [zL (hm b _ q fun z => z)]; exact q, fun b u xs q => by rw [zL (hm b _ q fun z => z)]; exact q, fun b ps q => ⟨#[], by rw [zL (hm b _ q fun z => z), q]; simp⟩⟩
  by_cases hbe : b = e
  · subst hbe; exact heo
  · exact ⟨u, k b u hbe q⟩
end
noncomputable def Yi (h : Heap) (H : Hp) : List Addr := (List.range h.objs.size).filter fun a => (H a).isSome
noncomputable def wN (h : Heap) (H : Hp) : Heap := PySem.W.hideAll h (Yi h H)
theorem zbR (h : Heap) (H : Hp) : (wN h H).objs.size = h.objs.size := PySem.W.hideAll_size _ _
theorem zbS {h : Heap} {H : Hp} {b : Addr} {o : Obj} (e : h.get? b = some o) (n : H b = none) : (wN h H).get? b = some o :=
  PySem.W.hideAll_get _ e fun hm => by
    have q : (H b).isSome = true := (List.mem_filter.mp hm).2
    rw [n] at q; simp at q
theorem zbT {h : Heap} {H : Hp} {b : Addr} {o : Obj} (e : (wN h H).get? b = some o) : h.get? b = some o ∧ H b = none := by
  have e' : h.get? b = some o := PySem.W.of_hideAll (Yi h H) e
  refine ⟨e', ?_⟩
  cases q : H b with
  | none => rfl
  | some x =>
    have hm : b ∈ Yi h H := List.mem_filter.mpr ⟨List.mem_range.mpr (Heap.lt_size e'), by simp [q]⟩
    have z : (wN h H).get? b = none := PySem.W.hideAll_none (Yi h H) hm
    rw [z] at e; cases e
noncomputable def zbU (g h : Heap) (L : Addr) : List (Addr × Obj) := (List.range h.objs.size).filterMap fun a => if a = L ∨ (g.get? a).isSome = true then none else (h.get? a).map fun o => (a, o)
noncomputable def zX (g h : Heap) (L d : Addr) : List (Addr × Obj) := (zbU g h L).filter fun p => decide (p.1 ≠ d)
end L2
namespace L2
open PySem PySem.Spec PyProof.Rows
structure Mod (K : PySem.W.Frag) (mg : Str → Option Value) (base : Heap) : Prop where
  kin : K.In base
  glob : base.Ns mainGlobals mg
  blt : ∃ mb, base.Ns builtinsNs mb ∧ ∀ x : Str, x ≠ "__name__" → mb x = bootBuiltins x
  nolimit : base.NoLimit
structure Cx where
  prog : Program
  w : World
  K : PySem.W.Frag
  mg : Str → Option Value
  base : Heap
  A : Around
  N : List Str
  s₀ : Shared
  H₀ : Hp
  env : Env
  outer : List Env
  stack : List Env
  ex : List Addr
  fn : Str → Bool
  calm : Bool
  pn : List (Addr × Obj)
  xe : Value → Shared → Prop
noncomputable def zM (l : List Env) : List Addr := l.filterMap (·.frame)
noncomputable abbrev Cx.fs (X : Cx) : List Addr := zM X.outer
noncomputable def xX (sc : Scope) (x : Str) : Prop := sc.names.lookup x = some .local ∨ sc.names.lookup x = some .cell ∨ sc.names.lookup x = some .free
noncomputable def wn (sc : Scope) (x : Str) : Prop := sc.names.lookup x = some .local ∨ sc.names.lookup x = some .cell
noncomputable def QO (env : Env) (h : Heap) (m : Str → Option Value) (x : Str) (u : Value) : Prop :=
  (env.kindOf x = some .local ∧ m x = some u) ∨ ((env.kindOf x = some .cell ∨ env.kindOf x = some .free) ∧ ∃ c, env.cells.lookup x = some c ∧ h.IsCell c (some u))
structure Cx.Ok (X : Cx) : Prop where
  mod : Mod X.K X.mg X.base
  kind : X.env.scope.kind = .function
  glob : X.env.globals = mainGlobals
  blt : X.env.builtins = builtinsNs
  above : X.s₀.heap.objs.size ≤ X.env.locals
  inj : ∀ x y c, X.env.cells.lookup x = some c → X.env.cells.lookup y = some c → x = y
  has : ∀ x, (X.env.kindOf x = some .cell ∨ X.env.kindOf x = some .free) → ∃ c, X.env.cells.lookup x = some c
  cab : ∀ x c, X.fn x = true → X.env.cells.lookup x = some c → X.s₀.heap.objs.size ≤ c
  hd : X.calm = true → X.A.handled = none
  frames : X.A.frames = some X.stack
  stk : X.stack = X.outer ∨ (X.stack = X.env :: X.outer ∧ X.env.frame = some X.env.locals)
  exf : ∀ b ∈ X.ex, b ≠ X.env.locals ∧ ∀ x c, X.env.cells.lookup x = some c → c ≠ b
  bs : ∀ b o, X.base.get? b = some o → X.s₀.heap.get? b = some o ∧ X.H₀ b = none
  bsz : X.base.objs.size ≤ X.s₀.heap.objs.size
  noex : ∀ b o, X.base.get? b = some o → b ∉ X.ex
  exfs : ∀ b ∈ X.ex, b ∉ X.fs
  funs : X.s₀.heap.FunFrames X.base X.outer
  frf : ∀ b ∈ X.fs, X.H₀ b = none
structure Inv (X : Cx) (pins : List (Addr × Obj)) (σ : List (Option V)) (H : Hp) (s : Shared) : Prop where
  ok : X.Ok
  os : s.os = X.s₀.os
  bare : AllBare s.gens
  base : Un X.fs X.ex X.H₀ H X.s₀.heap s.heap
  loc : ∃ m, s.heap.Ns X.env.locals m ∧ ∀ (i : Nat) (x : Str) (v : V), X.N[i]? = some x → σ[i]? = some (some v) → xX X.env.scope x → ∃ u, RelV v u ∧ QO X.env s.heap m x u
  cell : ∀ x c, X.env.cells.lookup x = some c → ∃ v, s.heap.IsCell c v
  free : H X.env.locals = none
  freeC : ∀ x c, X.env.cells.lookup x = some c → H c = none
  pin : ∀ p ∈ X.pn ++ pins, s.heap.get? p.1 = some p.2 ∧ H p.1 = none ∧ p.1 ≠ X.env.locals ∧ p.1 ∉ X.fs ∧ ∀ v, p.2.data ≠ .cell v
  hok : HOk X.prog X.w H s.heap
  len : σ.length = X.N.length
section
variable {X : Cx} {pins : List (Addr × Obj)} {σ : List (Option V)} {H H' : Hp} {s : Shared} {h' : Heap}
theorem Cx.Ok.nofr (ok : X.Ok) {b : Addr} {o : Obj} (e : X.base.get? b = some o) : b ∉ X.fs := fun hb => by
  have := (ok.funs.mem hb).1
  rw [e] at this; cases this
theorem Inv.bs (I : Inv X pins σ H s) : ∀ b o, X.base.get? b = some o → s.heap.get? b = some o ∧ H b = none := fun b o e =>
  ⟨I.base.keep b o (I.ok.bs b o e).1 (I.ok.bs b o e).2 (I.ok.nofr e) (I.ok.noex b o e), I.base.free b o (I.ok.bs b o e).1 (I.ok.bs b o e).2 (I.ok.noex b o e)⟩
theorem Inv.bk (I : Inv X pins σ H s) : ∀ b o, X.base.get? b = some o → s.heap.get? b = some o := fun b o e => (I.bs b o e).1
theorem Inv.mod (I : Inv X pins σ H s) : Mod X.K X.mg X.base := I.ok.mod
theorem Inv.kIn (I : Inv X pins σ H s) : X.K.In s.heap := I.ok.mod.kin.keeps I.bk
theorem Inv.nolimit (I : Inv X pins σ H s) : s.heap.NoLimit := I.ok.mod.nolimit.keeps I.bk
theorem Inv.fr (I : Inv X pins σ H s) : ∃ m, Fr X.base X.env.locals s.heap m :=
  let ⟨m, hn, _⟩ := I.loc
  ⟨m, hn, I.bk, Nat.le_trans I.ok.bsz I.ok.above⟩
theorem Inv.lt (I : Inv X pins σ H s) : X.env.locals < s.heap.objs.size := let ⟨_, hn, _⟩ := I.loc; hn.lt
theorem Inv.sz (I : Inv X pins σ H s) : X.s₀.heap.objs.size ≤ s.heap.objs.size := Nat.le_trans I.ok.above (Nat.le_of_lt I.lt)
theorem Inv.nofs (I : Inv X pins σ H s) {a : Addr} (h : s.heap.objs.size ≤ a) : a ∉ X.fs := fun hb => by
  obtain ⟨_, o, ho, _⟩ := I.ok.funs.mem hb
  exact absurd (Nat.lt_of_lt_of_le (Heap.lt_size ho) (Nat.le_trans I.sz h)) (Nat.lt_irrefl _)
theorem Inv.cne (I : Inv X pins σ H s) : ∀ x c, X.env.cells.lookup x = some c → c ≠ X.env.locals := fun x c e z => by
  obtain ⟨v, o, ho, hd⟩ := I.cell x c e
  obtain ⟨m, ⟨o', es, ep, ho', hd', _⟩, _⟩ := I.loc
  rw [z, ho'] at ho; cases ho; rw [hd'] at hd; cases hd
theorem Inv.funs (I : Inv X pins σ H s) : s.heap.FunFrames X.base X.outer := by
  have all : ∀ (l : List Env), (∀ b ∈ zM l, b ∈ X.fs) → X.s₀.heap.FunFrames X.base l → s.heap.FunFrames X.base l := by
    intro l
    induction l with
    | nil => intro _ _; trivial
    | cons env r ih =>
      intro hs hl
      obtain ⟨hk, ⟨L, o, hf, hn, ho, hd⟩, hr⟩ := hl
      have hL : L ∈ X.fs := hs L (by unfold zM; rw [List.filterMap_cons, hf]; exact List.mem_cons_self)
      obtain ⟨sl, e⟩ := I.base.slot L o ho (I.ok.frf L hL) hL fun z => I.ok.exfs L z hL
      exact ⟨hk, ⟨L, _, hf, hn, e, hd⟩, ih (fun b hb => hs b (by unfold zM; rw [List.filterMap_cons, hf]; exact List.mem_cons_of_mem _ hb)) hr⟩
  exact all X.outer (fun _ hb => hb) I.ok.funs
theorem Inv.stack (I : Inv X pins σ H s) : s.heap.FunFrames X.base X.stack := by
  rcases I.ok.stk with e | ⟨e, hf⟩
  · rw [e]; exact I.funs
  · rw [e]
    obtain ⟨m, hn, _⟩ := I.loc
    refine .cons (by rw [I.ok.kind]; decide) hf hn ?_ I.funs
    exact Heap.get?_none_of_le (Nat.le_trans I.ok.bsz I.ok.above)
theorem Inv.stkSub (I : Inv X pins σ H s) : ∀ b ∈ zM X.stack, b ∈ X.env.locals :: X.fs := fun b hb => by
  rcases I.ok.stk with e | ⟨e, hf⟩
  · rw [e] at hb; exact List.mem_cons_of_mem _ hb
  · rw [e] at hb
    unfold zM at hb
    rw [List.filterMap_cons, hf] at hb
    exact hb
theorem Inv.stkFree (I : Inv X pins σ H s) : ∀ b ∈ zM X.stack, H b = none := fun b hb => by
  rcases List.mem_cons.mp (I.stkSub b hb) with e | hb
  · rw [e]; exact I.free
  · obtain ⟨_, o, ho, _⟩ := I.ok.funs.mem hb
    exact I.base.free b o ho (I.ok.frf b hb) fun z => I.ok.exfs b z hb
theorem Inv.step {g' : Array GenState} {t' : Nat} {d' : Drawn} {ch : List Addr} (I : Inv X pins σ H s)
    (hch : ∀ b ∈ ch, (b ∈ X.ex ∨ X.s₀.heap.objs.size ≤ b) ∧ b ≠ X.env.locals ∧ (∀ x c, X.env.cells.lookup x = some c → c ≠ b) ∧ ∀ p ∈ X.pn ++ pins, p.1 ≠ b)
    (keep : ∀ b o, b ≠ X.env.locals → b ∉ X.fs → b ∉ ch → s.heap.get? b = some o → H b = none → h'.get? b = some o)
    (slot : ∀ b o, b ≠ X.env.locals → b ∈ X.fs → b ∉ ch → s.heap.get? b = some o → H b = none → ∃ sl, h'.get? b = some { o with slots := sl }) (free : ∀ b o, b ∉ ch → s.heap.get? b = some o → H b = none → H' b = none)
    (there : ∀ b o, b ∉ ch → s.heap.get? b = some o → ∃ o', h'.get? b = some o')
    (tups : ∀ b xs, H b = some (.tup xs) → H' b = some (.tup xs)) (frzs : ∀ b o u, H b = some (.frz o u) → H' b = some (.frz o u)) (tbls : ∀ b ps, H b = some (.tbl ps) → ∃ more, H' b = some (.tbl (ps ++ more)))
    (ns : ∀ m, s.heap.Ns X.env.locals m → h'.Ns X.env.locals m) (hok : HOk X.prog X.w H' h') (hg : AllBare g') :
    Inv X pins σ H' { s with heap := h', gens := g', drawn := d', toks := t' } := by
  have neL : ∀ b o, X.s₀.heap.get? b = some o → b ≠ X.env.locals := fun b o e => Nat.ne_of_lt (Nat.lt_of_lt_of_le (Heap.lt_size e) I.ok.above)
  have neC : ∀ b o, X.s₀.heap.get? b = some o → b ∉ X.ex → b ∉ ch := fun b o e hx hb => by
    rcases (hch b hb).1 with z | z
    · exact hx z
    · exact absurd (Nat.lt_of_lt_of_le (Heap.lt_size e) z) (Nat.lt_irrefl _)
  have cellK : ∀ x c, X.env.cells.lookup x = some c → ∀ v, s.heap.IsCell c v → h'.IsCell c v := fun x c e v ⟨o, ho, hd⟩ => by
    have nch : c ∉ ch := fun z => (hch c z).2.2.1 x c e rfl
    by_cases hc : c ∈ X.fs
    · obtain ⟨sl, q⟩ := slot c o (I.cne x c e) hc nch ho (I.freeC x c e)
      exact ⟨_, q, hd⟩
    · exact ⟨o, keep c o (I.cne x c e) hc nch ho (I.freeC x c e), hd⟩
  refine ⟨I.ok, I.os, hg, ⟨fun b o e n hb hx => ?_, fun b o e n hb hx => ?_, fun b o e n hx => ?_, fun b o e hx => ?_, fun b xs e => tups b xs (I.base.tups b xs e), fun b o xs e => frzs b o xs (I.base.frzs b o xs e), fun b ps e => ?_⟩, ?_, fun x c e => ?_, ?_, fun x c e => ?_, fun p hp => ?_, hok, I.len⟩
  · exact keep b o (neL b o e) hb (neC b o e hx) (I.base.keep b o e n hb hx) (I.base.free b o e n hx)
  · obtain ⟨sl, e1⟩ := I.base.slot b o e n hb hx
    obtain ⟨sl', e2⟩ := slot b _ (neL b o e) hb (neC b o e hx) e1 (I.base.free b o e n hx)
    exact ⟨sl', e2⟩
  · obtain ⟨o', e1⟩ := I.base.there b o e hx
    exact free b o' (neC b o e hx) e1 (I.base.free b o e n hx)
  · obtain ⟨o', e1⟩ := I.base.there b o e hx
    exact there b o' (neC b o e hx) e1
  · obtain ⟨m1, e1⟩ := I.base.tbls b ps e
    obtain ⟨m2, e2⟩ := tbls b _ e1
    exact ⟨m1 ++ m2, by rw [e2, Array.append_assoc]⟩
  · obtain ⟨m, hn, hl⟩ := I.loc
    refine ⟨m, ns m hn, fun i x v e1 e2 e3 => ?_⟩
    obtain ⟨u, r, l⟩ := hl i x v e1 e2 e3
    refine ⟨u, r, ?_⟩
    rcases l with l | ⟨k, c, e, z⟩
    · exact .inl l
    · exact .inr ⟨k, c, e, cellK x c e _ z⟩
  · obtain ⟨v, z⟩ := I.cell x c e
    exact ⟨v, cellK x c e v z⟩
  · obtain ⟨m, ⟨o, _, _, ho, _⟩, _⟩ := I.loc
    exact free _ o (fun z => (hch _ z).2.1 rfl) ho I.free
  · obtain ⟨v, o, ho, hd⟩ := I.cell x c e
    exact free c o (fun z => (hch c z).2.2.1 x c e rfl) ho (I.freeC x c e)
  · obtain ⟨e, n, ne, nf, d⟩ := I.pin p hp
    have nch : p.1 ∉ ch := fun z => (hch p.1 z).2.2.2 p hp rfl
    exact ⟨keep p.1 p.2 ne nf nch e n, free p.1 p.2 nch e n, ne, nf, d⟩
theorem Inv.un {t' : Nat} (I : Inv X pins σ H s) (u : Un X.fs [] H H' s.heap h') (hok : HOk X.prog X.w H' h') : Inv X pins σ H' { s with heap := h', toks := t' } := by
  obtain ⟨m, ⟨o, es, ep, ho, r⟩, _⟩ := id I.loc
  obtain ⟨sl, hL⟩ := u.any ho I.free (by simp)
  exact I.step (g' := s.gens) (d' := s.drawn) (ch := []) (fun _ z => nomatch z) (fun b o _ hb _ e n => u.keep b o e n hb (by simp)) (fun b o _ hb _ e n => u.slot b o e n hb (by simp)) (fun b o _ e n => u.free b o e n (by simp)) (fun b o _ e => u.there b o e (by simp)) u.tups u.frzs u.tbls (fun m' hm => by
    obtain ⟨o', es', ep', ho', r'⟩ := hm
    rw [ho] at ho'; cases ho'
    exact ⟨_, es', ep', hL, r'⟩) hok I.bare
theorem Inv.call {g' : Array GenState} {t' : Nat} {d' : Drawn} {ch : List Addr} (I : Inv X pins σ H s) (u : Un (zM X.stack) ch H H' s.heap h') (hok : HOk X.prog X.w H' h') (hg : AllBare g')
    (hch : ∀ b ∈ ch, (b ∈ X.ex ∨ X.s₀.heap.objs.size ≤ b) ∧ b ≠ X.env.locals ∧ (∀ x c, X.env.cells.lookup x = some c → c ≠ b) ∧ ∀ p ∈ X.pn ++ pins, p.1 ≠ b) :
    Inv X pins σ H' { s with heap := h', gens := g', drawn := d', toks := t' } := by
  obtain ⟨m, ⟨o, es, ep, ho, r⟩, _⟩ := id I.loc
  obtain ⟨sl, hL⟩ := u.any ho I.free fun z => (hch _ z).2.1 rfl
  exact I.step (ch := ch) hch (fun b o hL hb hc e n => u.keep b o e n (fun z => (List.mem_cons.mp (I.stkSub b z)).elim hL hb) hc) (fun b o _ _ hc e n => u.any e n hc) (fun b o hc e n => u.free b o e n hc) (fun b o hc e => u.there b o e hc) u.tups u.frzs u.tbls (fun m' hm => by
    obtain ⟨o', es', ep', ho', r'⟩ := hm
    rw [ho] at ho'; cases ho'
    exact ⟨_, es', ep', hL, r'⟩) hok hg
theorem Inv.turned {t' : Nat} {it : Addr} (I : Inv X pins σ H s) (k : ∀ b o, b ≠ it → s.heap.get? b = some o → h'.get? b = some o) (hn : H it = none) (hL : it ≠ X.env.locals)
    (h1 : it ∈ X.ex ∨ X.s₀.heap.objs.size ≤ it) (h2 : ∀ x c, X.env.cells.lookup x = some c → c ≠ it) (h3 : ∀ p ∈ X.pn ++ pins, p.1 ≠ it) : Inv X pins σ H { s with heap := h', toks := t' } := by
  have nit : ∀ b u, H b = some u → b ≠ it := fun b u e z => by rw [z, hn] at e; cases e
  refine I.step (g' := s.gens) (d' := s.drawn) (ch := [it]) (fun b hb => ?_) (fun b o _ _ hc e _ => k b o (fun z => hc (by simp [z])) e) (fun b o _ _ hc e _ => ⟨o.slots, k b o (fun z => hc (by simp [z])) e⟩) (fun _ _ _ _ n => n)
    (fun b o hc e => ⟨o, k b o (fun z => hc (by simp [z])) e⟩) (fun _ _ e => e) (fun _ _ _ e => e) (fun b ps e => ⟨#[], by rw [e]; simp⟩) (fun m hm => ?_) (fun b u e => ?_) I.bare
  · have e : b = it := by simpa using hb
    subst e
    exact ⟨h1, hL, h2, h3⟩
  · obtain ⟨o, es, ep, ho, r⟩ := hm
    exact ⟨o, es, ep, k _ o (Ne.symm hL) ho, r⟩
  · refine (I.hok b u e).stay (fun c v hc q => k c v ?_ q) (fun _ q => q) fun _ _ q => q
    rcases hc with z | z
    · rw [z]; exact nit b u e
    · exact nit c _ z
theorem Inv.tok (I : Inv X pins σ H s) (t : Nat) : Inv X pins σ H { s with toks := t } := I.un (h' := s.heap) (t' := t) Un.refl I.hok
theorem Inv.kept {t' : Nat} (I : Inv X pins σ H s) (k : ∀ b u, s.heap.get? b = some u → h'.get? b = some u) : Inv X pins σ H { s with heap := h', toks := t' } := I.un (Un.kept k) (I.hok.kept k)
theorem Inv.laid {a : Addr} {o : HO} {t' : Nat} (I : Inv X pins σ H s) (k : ∀ b u, s.heap.get? b = some u → h'.get? b = some u) (hp : s.heap.objs.size ≤ a) (new : ObjOk X.prog X.w (zJ H a o) h' a o) :
    Inv X pins σ (zJ H a o) { s with heap := h', toks := t' } := I.un (Un.laid k hp (I.hok.fresh hp)) (I.hok.laid k hp new)
theorem Inv.write {x e : Addr} {o : HO} {t' : Nat} (I : Inv X pins σ H s) (mu : Yh (H x)) (he : e = x ∨ H e = some (.own x)) (k : ∀ b u, b ≠ e → s.heap.get? b = some u → h'.get? b = some u) (heo : ∃ u, h'.get? e = some u)
    (new : ObjOk X.prog X.w (zJ H x o) h' x o) : Inv X pins σ (zJ H x o) { s with heap := h', toks := t' } := I.un (Un.write mu he k heo) (I.hok.write mu he k heo new)
theorem Inv.pins_of {pins' : List (Addr × Obj)} (I : Inv X pins σ H s) (h : ∀ p ∈ pins', s.heap.get? p.1 = some p.2 ∧ H p.1 = none ∧ p.1 ≠ X.env.locals ∧ p.1 ∉ X.fs ∧ ∀ v, p.2.data ≠ .cell v) : Inv X pins' σ H s :=
  ⟨I.ok, I.os, I.bare, I.base, I.loc, I.cell, I.free, I.freeC, fun p hp => (List.mem_append.mp hp).elim (fun z => I.pin p (List.mem_append_left _ z)) (h p), I.hok, I.len⟩
theorem Vi {N : List Str} (hN : N.Nodup) {i j : Nat} {x : Str} (a : N[i]? = some x) (b : N[j]? = some x) : i = j := by
  obtain ⟨h1, e1⟩ := List.getElem?_eq_some_iff.mp a
  obtain ⟨h2, e2⟩ := List.getElem?_eq_some_iff.mp b
  exact (List.getElem_inj hN).mp (e1.trans e2.symm)
theorem zbV {M : Model} {A : Around} {E : Value → Shared → Prop} {i : Nat} {x : Str} {v : V} {u : Value} {Q : Unit → Shared → Prop} (I : Inv X pins σ H s) (hN : X.N.Nodup) (hi : X.N[i]? = some x) (hx : wn X.env.scope x) (r : RelV v u)
    (h : ∀ s', Inv X pins (σ.set i (some v)) H s' → (∃ a, Heap.SameBut a s.heap s'.heap ∧ (a = X.env.locals ∨ X.env.cells.lookup x = some a)) → Q () s') (hf : X.fn x = true ∨ X.env.scope.names.lookup x = some .local := by first | exact .inl rfl | exact .inr rfl | assumption) : wpAny M A (storeName X.env x u) Q E s := by
  obtain ⟨m, hn, hl⟩ := id I.loc
  have hcls : (X.env.scope.kind == .class || (X.env.scope.kind == .module && X.env.locals != X.env.globals)) = false := by rw [I.ok.kind]; rfl
  have hiσ : i < σ.length := by rw [I.len]; exact (List.getElem?_eq_some_iff.mp hi).1
  have cne := I.cne
  have tracked : ∀ {a : Addr} {h' : Heap}, (∃ o, s.heap.get? a = some o ∧ H a = none) → Heap.SameBut a s.heap h' → HOk X.prog X.w H h' := fun {a h'} ha hs b ob e => by
    obtain ⟨_, _, hfree⟩ := ha
    refine (I.hok b ob e).stay (fun c w' hc q => (hs.2 c ?_).trans q) (fun _ q => q) fun _ _ q => q
    rintro rfl
    rcases hc with rfl | hc
    · rw [hfree] at e; cases e
    · rw [hfree] at hc; cases hc
  rcases hx with hk | hk
  · refine wpAny_storeName_local hk hn (fun h' hn' hs => ?_) hcls
    obtain ⟨oL, _, _, hoL, _⟩ := id hn
    refine h _ ⟨I.ok, I.os, I.bare, ⟨fun b o e n hb hx => ?_, fun b o e n hb hx => ?_, I.base.free, fun b o e hx => ?_, I.base.tups, I.base.frzs, I.base.tbls⟩, ⟨_, hn', fun j y v' e1 e2 e3 => ?_⟩, fun y c e => ?_, I.free, I.freeC, fun p hp => ?_, tracked ⟨oL, hoL, I.free⟩ hs, by simpa using I.len⟩ ⟨_, hs, .inl rfl⟩
    · exact (hs.2 b (Nat.ne_of_lt (Nat.lt_of_lt_of_le (Heap.lt_size e) I.ok.above))).trans (I.base.keep b o e n hb hx)
    · obtain ⟨sl, e1⟩ := I.base.slot b o e n hb hx
      exact ⟨sl, (hs.2 b (Nat.ne_of_lt (Nat.lt_of_lt_of_le (Heap.lt_size e) I.ok.above))).trans e1⟩
    · obtain ⟨o', e1⟩ := I.base.there b o e hx
      exact ⟨o', (hs.2 b (Nat.ne_of_lt (Nat.lt_of_lt_of_le (Heap.lt_size e) I.ok.above))).trans e1⟩
    · by_cases hj : j = i
      · subst hj
        rw [hi] at e1; cases e1
        rw [List.getElem?_set_self hiσ] at e2
        cases e2
        exact ⟨u, r, .inl ⟨hk, by simp⟩⟩
      · rw [List.getElem?_set_ne (Ne.symm hj)] at e2
        obtain ⟨u', r', q⟩ := hl j y v' e1 e2 e3
        refine ⟨u', r', ?_⟩
        rcases q with ⟨k, e⟩ | ⟨k, c, e, z⟩
        · refine .inl ⟨k, ?_⟩
          have : y ≠ x := fun e => hj (Vi hN e1 (e ▸ hi))
          simp [this, e]
        · exact .inr ⟨k, c, e, z.sameBut hs (cne y c e)⟩
    · obtain ⟨w', z⟩ := I.cell y c e
      exact ⟨w', z.sameBut hs (cne y c e)⟩
    · obtain ⟨e, n, ne, nf, d⟩ := I.pin p hp
      exact ⟨(hs.2 p.1 ne).trans e, n, ne, nf, d⟩
  · have hfn : X.fn x = true := by
      rcases hf with z | z
      · exact z
      · rw [z] at hk; cases hk
    obtain ⟨c, hc⟩ := I.ok.has x (.inl hk)
    obtain ⟨w', z⟩ := I.cell x c hc
    refine wpAny_storeName_cell I.ok.kind hk hc z (fun h' hc' hs => ?_)
    obtain ⟨oc, hoc, hocd⟩ := id z
    refine h { s with heap := h' } ⟨I.ok, I.os, I.bare, ⟨fun b o e n hb hx => ?_, fun b o e n hb hx => ?_, I.base.free, fun b o e hx => ?_, I.base.tups, I.base.frzs, I.base.tbls⟩, ⟨m, hn.sameBut hs (Ne.symm (cne x c hc)), fun j y v' e1 e2 e3 => ?_⟩, fun y c' e => ?_, I.free, I.freeC, fun p hp => ?_, tracked ⟨oc, hoc, I.freeC x c hc⟩ hs, by simpa using I.len⟩ ⟨c, hs, .inr hc⟩
    · exact (hs.2 b (Nat.ne_of_lt (Nat.lt_of_lt_of_le (Heap.lt_size e) (I.ok.cab x c hfn hc)))).trans (I.base.keep b o e n hb hx)
    · obtain ⟨sl, e1⟩ := I.base.slot b o e n hb hx
      exact ⟨sl, (hs.2 b (Nat.ne_of_lt (Nat.lt_of_lt_of_le (Heap.lt_size e) (I.ok.cab x c hfn hc)))).trans e1⟩
    · obtain ⟨o', e1⟩ := I.base.there b o e hx
      exact ⟨o', (hs.2 b (Nat.ne_of_lt (Nat.lt_of_lt_of_le (Heap.lt_size e) (I.ok.cab x c hfn hc)))).trans e1⟩
    · by_cases hj : j = i
      · subst hj
        rw [hi] at e1; cases e1
        rw [List.getElem?_set_self hiσ] at e2
        cases e2
        exact ⟨u, r, .inr ⟨.inl hk, c, hc, hc'⟩⟩
      · rw [List.getElem?_set_ne (Ne.symm hj)] at e2
        obtain ⟨u', r', q⟩ := hl j y v' e1 e2 e3
        refine ⟨u', r', ?_⟩
        rcases q with q | ⟨k, c', e, z'⟩
        · exact .inl q
        · refine .inr ⟨k, c', e, z'.sameBut hs ?_⟩
          rintro rfl
          exact hj (Vi hN e1 (I.ok.inj _ _ _ e hc ▸ hi))
    · by_cases hcc : c' = c
      · subst hcc; exact ⟨_, hc'⟩
      · obtain ⟨w2, z2⟩ := I.cell y c' e
        exact ⟨w2, z2.sameBut hs hcc⟩
    · obtain ⟨e, n, ne, nf, d⟩ := I.pin p hp
      refine ⟨(hs.2 p.1 ?_).trans e, n, ne, nf, d⟩
      intro q
      rw [q, hoc] at e
      have q' : oc = p.2 := Option.some.inj e
      exact d w' (by rw [← q']; exact hocd)
theorem Vj {M : Model} {A : Around} {E : Value → Shared → Prop} {i : Nat} {x : Str} {v : V} {u : Value} {Q : Unit → Shared → Prop} (I : Inv X pins σ H s) (hN : X.N.Nodup) (hi : X.N[i]? = some x) (hx : wn X.env.scope x) (r : RelV v u)
    (h : ∀ s', Inv X pins (σ.set i (some v)) H s' → Q () s') (hf : X.fn x = true ∨ X.env.scope.names.lookup x = some .local := by first | exact .inl rfl | exact .inr rfl | assumption) : wpAny M A (storeName X.env x u) Q E s :=
  zbV I hN hi hx r (fun s' I' _ => h s' I') hf
theorem Inv.call' {s' : Shared} {ch : List Addr} (I : Inv X pins σ H s) (ho : s'.os = s.os) (u : Un (zM X.stack) ch H H' s.heap s'.heap) (hok : HOk X.prog X.w H' s'.heap) (hg : AllBare s'.gens)
    (hch : ∀ b ∈ ch, (b ∈ X.ex ∨ X.s₀.heap.objs.size ≤ b) ∧ b ≠ X.env.locals ∧ (∀ x c, X.env.cells.lookup x = some c → c ≠ b) ∧ ∀ p ∈ X.pn ++ pins, p.1 ≠ b) : Inv X pins σ H' s' := by
  obtain ⟨h', g', d', t', o'⟩ := s'
  have e : o' = s.os := ho
  subst e
  exact I.call (g' := g') (t' := t') (d' := d') u hok hg hch
end
noncomputable abbrev XK := Value → Option Addr → Hp → Prop
noncomputable abbrev St := List (Option V)
noncomputable abbrev VK := V → Hp → Prop
noncomputable abbrev TE := St → Hp → VK → Prop
noncomputable abbrev TT := St → Hp → (Bool → Hp → Prop) → Prop
noncomputable abbrev TA := St → Hp → (List V → Hp → Prop) → Prop
structure Ends where
  nx : St → Hp → Prop
  rt : VK
  bk : St → Hp → Prop := fun _ _ => False
  ct : St → Hp → Prop := fun _ _ => False
noncomputable abbrev TS := Ends → St → Hp → Prop
noncomputable def EP (X : Cx) (pins : List (Addr × Obj)) (σ : St) (Q : VK) (u : Value) (s' : Shared) : Prop := ∃ v H', Inv X pins σ H' s' ∧ RelV v u ∧ Q v H'
noncomputable def TP (X : Cx) (pins : List (Addr × Obj)) (σ : St) (Q : Bool → Hp → Prop) (b : Bool) (s' : Shared) : Prop := ∃ H', Inv X pins σ H' s' ∧ Q b H'
noncomputable def AP (X : Cx) (pins : List (Addr × Obj)) (σ : St) (Q : List V → Hp → Prop) (us : List Value) (s' : Shared) : Prop := ∃ vs H', Inv X pins σ H' s' ∧ Vals vs us ∧ Q vs H'
noncomputable def SP (X : Cx) (pins : List (Addr × Obj)) (D : Ends) (f : Flow) (s' : Shared) : Prop :=
  match f with
  | .next => ∃ σ' H', Inv X pins σ' H' s' ∧ D.nx σ' H'
  | .brk => ∃ σ' H', Inv X pins σ' H' s' ∧ D.bk σ' H'
  | .cont => ∃ σ' H', Inv X pins σ' H' s' ∧ D.ct σ' H'
  | .ret u => ∃ v σ' H', Inv X pins σ' H' s' ∧ RelV v u ∧ D.rt v H'
noncomputable def PE (X : Cx) (e : Expr) (t : TE) : Prop :=
  ∀ (pins : List (Addr × Obj)) (s : Shared) (σ : St) (H : Hp) (Q : VK), Inv X pins σ H s → t σ H Q → wpAny (model X.prog X.w) X.A (eval e X.env) (EP X pins σ Q) X.xe s
noncomputable def PT (X : Cx) (e : Expr) (t : TT) : Prop :=
  ∀ (pins : List (Addr × Obj)) (s : Shared) (σ : St) (H : Hp) (Q : Bool → Hp → Prop), Inv X pins σ H s → t σ H Q → wpAny (model X.prog X.w) X.A (isTrue e X.env (eval e X.env)) (TP X pins σ Q) X.xe s
noncomputable def PW (X : Cx) (e : Expr) (t : TT) : Prop :=
  ∀ (whole : Sem Value) (pins : List (Addr × Obj)) (s : Shared) (σ : St) (H : Hp) (Q : Bool → Hp → Prop), Inv X pins σ H s → t σ H Q → wpAny (model X.prog X.w) X.A (isTrue e X.env whole) (TP X pins σ Q) X.xe s
theorem PW.pt {X : Cx} {e : Expr} {t : TT} (h : PW X e t) : PT X e t := h _
noncomputable def PA (X : Cx) (es : List Expr) (t : TA) : Prop :=
  ∀ (pos : Pos) (pins : List (Addr × Obj)) (s : Shared) (σ : St) (H : Hp) (Q : List V → Hp → Prop), Inv X pins σ H s → t σ H Q → wpAny (model X.prog X.w) X.A (spliced (backTo pos (starEach es X.env))) (AP X pins σ Q) X.xe s
noncomputable def PS (X : Cx) (st : Stmt) (t : TS) : Prop :=
  ∀ (pins : List (Addr × Obj)) (s : Shared) (σ : St) (H : Hp) (D : Ends), Inv X pins σ H s → t D σ H → wpAny (model X.prog X.w) X.A (exec st X.env) (SP X pins D) X.xe s
noncomputable def PSs (X : Cx) (st : List Stmt) (t : TS) : Prop :=
  ∀ (pins : List (Addr × Obj)) (s : Shared) (σ : St) (H : Hp) (D : Ends), Inv X pins σ H s → t D σ H → wpAny (model X.prog X.w) X.A (execs st X.env) (SP X pins D) X.xe s
theorem zq {α : Type} {t : Sem α} {Q Q' : α → Shared → Prop} {M : Model} {A : Around} {E : Value → Shared → Prop} {s : Shared} (h : wpAny M A t Q E s) (hQ : ∀ a s, Q a s → Q' a s) : wpAny M A t Q' E s := wpAny_mono h hQ fun _ _ x => x
end L2
namespace L2
open PySem PySem.Spec PyProof.Rows
section
variable {X : Cx}
noncomputable def zbW (i : Nat) : TE := fun σ H Q => ∃ v, σ[i]? = some (some v) ∧ Q v H
noncomputable def tC (v : V) : TE := fun _ H Q => Q v H
theorem Yj {i : Nat} {x : Str} {pos : Pos} (hN : X.N[i]? = some x) (hv : xX X.env.scope x) (hd : (x == ("__debug__" : Str)) = false := by decide) (hcd : (x == ("__classdict__" : Str)) = false := by decide) : PE X (.Name x pos) (zbW i) := by
  intro pins s σ H Q I h
  obtain ⟨v, e, h⟩ := h
  obtain ⟨m, hn, hl⟩ := I.loc
  obtain ⟨u, r, l⟩ := hl i x v hN e hv
  have fin : EP X pins σ Q u s := ⟨v, H, I, r, h⟩
  rcases l with ⟨hk, hm⟩ | ⟨hk, c, hc, jP⟩
  · exact wpAny_Name (wpAny_loadName_local I.ok.kind hk hn hm fin) hd
  · rcases hk with hk | hk
    · exact wpAny_Name (wpAny_loadName_cell I.ok.kind hk hc jP fin) hd
    · exact wpAny_Name (wpAny_loadName_free I.ok.kind hk hc jP fin hcd) hd
theorem zbX {i j pos} : PE X (.Constant (.int i) j pos) (tC (.int i)) := fun _ _ _ H _ I h => wpAny_Constant_int ⟨.int i, H, I.tok _, ⟨_, rfl⟩, h⟩
theorem QP {b j pos} : PE X (.Constant (.bool b) j pos) (tC (.bl b)) := fun _ _ _ H _ I h => Constant_bool ⟨.bl b, H, I, rfl, h⟩
theorem zbY {j pos} : PE X (.Constant .none j pos) (tC .non) := fun _ _ _ H _ I h => Constant_none ⟨.non, H, I, rfl, h⟩
theorem jg {x j pos} : PE X (.Constant (.str x) j pos) (tC (.str x)) := fun _ _ _ H _ I h => Calls.Constant_str ⟨.str x, H, I.tok _, ⟨_, rfl⟩, h⟩
noncomputable def Gl (X : Cx) (x : Str) : Prop := X.env.kindOf x = some .globalImplicit
theorem jQ {E : Value → Shared → Prop} {pins : List (Addr × Obj)} {s : Shared} {σ : St} {H : Hp} {x : Str} {u : Value} {pos : Pos} {Q : Value → Shared → Prop} (I : Inv X pins σ H s) (hg : Gl X x) (hm : X.mg x = some u) (h : Q u s)
    (hd : (x == ("__debug__" : Str)) = false := by decide) : wpAny (model X.prog X.w) X.A (eval (.Name x pos) X.env) Q E s :=
  Calls.Name_function_global I.ok.kind hg (Calls.loadGlobal_global (by rw [I.ok.glob]; exact I.mod.glob.keeps I.bk) hm h) hd
theorem jh {E : Value → Shared → Prop} {pins : List (Addr × Obj)} {s : Shared} {σ : St} {H : Hp} {x : Str} {u : Value} {pos : Pos} {Q : Value → Shared → Prop} (I : Inv X pins σ H s) (hg : Gl X x) (hm : X.mg x = none) (hv : bootBuiltins x = some u) (h : Q u s)
    (hn : x ≠ "__name__" := by decide) (hd : (x == ("__debug__" : Str)) = false := by decide) : wpAny (model X.prog X.w) X.A (eval (.Name x pos) X.env) Q E s := by
  obtain ⟨mb, h1, h2⟩ := I.mod.blt
  exact Calls.Name_function_global I.ok.kind hg (Calls.loadGlobal_builtin (by rw [I.ok.glob]; exact I.mod.glob.keeps I.bk) hm (by rw [I.ok.blt]; exact h1.keeps I.bk) ((h2 x hn).trans hv) h) hd
theorem zbZ {x : Str} {v : V} {u : Value} {pos : Pos} (hg : Gl X x) (hm : X.mg x = some u) (r : RelV v u) (hd : (x == ("__debug__" : Str)) = false := by decide) : PE X (.Name x pos) (tC v) :=
  fun _ _ _ H _ I h => jQ I hg hm ⟨v, H, I, r, h⟩ hd
theorem QQ {x : Str} {v : V} {u : Value} {pos : Pos} (hg : Gl X x) (hm : X.mg x = none) (hv : bootBuiltins x = some u) (r : RelV v u) (hn : x ≠ "__name__" := by decide) (hd : (x == ("__debug__" : Str)) = false := by decide) : PE X (.Name x pos) (tC v) :=
  fun _ _ _ H _ I h => jh I hg hm hv ⟨v, H, I, r, h⟩ hn hd
variable {a b : Expr} {ta tb : TE} {pos : Pos}
noncomputable def PC (X : Cx) (op : CmpOp) (a b : Expr) (t : TE) : Prop :=
  ∀ (pins : List (Addr × Obj)) (s : Shared) (σ : St) (H : Hp) (Q : VK), Inv X pins σ H s → t σ H Q →
    wpAny (model X.prog X.w) X.A (eval a X.env) (fun v s₁ => wpAny (model X.prog X.w) X.A (eval b X.env) (fun u s₂ => wpAny (model X.prog X.w) X.A (compareOp op v u) (EP X pins σ Q) X.xe s₂) X.xe s₁) X.xe s
theorem zb0 (b : Expr) {op : CmpOp} (h : op ≠ .In) (h2 : op ≠ .NotIn) : behindInMarks op b = false := by
  have e1 : (op == CmpOp.In) = false := by cases op <;> first | rfl | exact absurd rfl h
  have e2 : (op == CmpOp.NotIn) = false := by cases op <;> first | rfl | exact absurd rfl h2
  cases b <;> simp [behindInMarks, e1, e2]
noncomputable def zb1 (ta : TE) : TE := fun σ H Q => ta σ H fun x H1 => Q (.bl (decide (x = .non))) H1
theorem RelV.none_iff {x : V} {v : Value} (r : RelV x v) : (v == Value.none) = decide (x = .non) := by
  cases x with
  | non => cases r; rfl
  | bl _ => cases r; rfl
  | int _ => obtain ⟨t, rfl⟩ := r; rfl
  | str _ => obtain ⟨t, rfl⟩ := r; rfl
  | byt _ => obtain ⟨t, rfl⟩ := r; rfl
  | flt _ => obtain ⟨t, rfl⟩ := r; rfl
  | ref _ => cases r; rfl
  | ty _ => cases r; rfl
theorem zb2 {j pos'} (ha : PE X a ta) : PC X .Is a (.Constant .none j pos') (zb1 ta) := by
  intro pins s σ H Q I h
  refine zq (ha pins s σ H _ I h) fun v s1 ⟨x, H1, I1, r1, q1⟩ => ?_
  exact Constant_none (is_none_gen ⟨.bl _, H1, I1, by rw [r1.none_iff]; rfl, q1⟩)
noncomputable def tB (t : TE) : TT := fun σ H Q => t σ H fun x H1 => ∃ c, x = .bl c ∧ Q c H1
theorem zb3 {op : CmpOp} {t : TE} (h : PC X op a b t) (h1 : behindInMarks op b = false := by first | exact zb0 _ (by decide) (by decide) | rfl) : PT X (.Compare a [op] [b] pos) (tB t) := by
  intro pins s σ H Q I hw
  refine wpAny_isTrue_Compare1 (zq (h pins s σ H _ I hw) fun v s1 h1 => zq h1 fun u s2 h2 => zq h2 fun c s3 ⟨x, H1, I1, r1, q1⟩ => ?_) h1
  obtain ⟨d, rfl, q⟩ := q1
  cases r1
  exact wpAny_truthy_bool ⟨H1, I1, q⟩
variable {tA tB' : TT} {zX : List Expr}
noncomputable def zb4 (t u : TT) : TT := fun σ H Q => t σ H fun c H1 => if c = true then Q true H1 else u σ H1 Q
noncomputable def zb5 (t : TT) : TT := fun σ H Q => t σ H fun c H1 => Q (!c) H1
theorem zb6 (ha : PT X a tA) : PW X (.BoolOp .Or [a] pos) tA := by
  intro wh pins s σ H Q I h
  refine isTrue_or (zq (ha pins s σ H Q I h) fun c s1 e => ?_)
  cases c with
  | false => exact isTrue_or_nil e
  | true => exact e
theorem zb7 (ha : PT X a tA) (hb : PW X (.BoolOp .Or (b :: zX) pos) tB') : PW X (.BoolOp .Or (a :: b :: zX) pos) (zb4 tA tB') := by
  intro wh pins s σ H Q I h
  refine isTrue_or (zq (ha pins s σ H _ I h) fun c s1 ⟨H1, I1, q1⟩ => ?_)
  cases c with
  | true => exact ⟨H1, I1, q1⟩
  | false => exact hb wh pins s1 σ H1 Q I1 q1
theorem zb8 (ha : PT X a tA) : PT X (.UnaryOp .Not a pos) (zb5 tA) := by
  intro pins s σ H Q I h
  exact isTrue_not (ha pins s σ H (fun c H1 => Q (!c) H1) I h)
noncomputable def zb9 (ta tb : TE) : TE := fun σ H Q => ta σ H fun x H1 => ∃ c, x = .bl c ∧ if c = true then tb σ H1 Q else Q (.bl false) H1
theorem zca {op} {t : TE} (h : PE X a t) : PE X (.BoolOp op [a] pos) t := fun pins s σ H Q I hw => BoolOp_one (h pins s σ H Q I hw)
theorem zcb (ha : PE X a ta) (hb : PE X (.BoolOp .And (b :: zX) pos) tb) : PE X (.BoolOp .And (a :: b :: zX) pos) (zb9 ta tb) := by
  intro pins s σ H Q I h
  refine BoolOp_and (zq (ha pins s σ H _ I h) fun v s1 ⟨x, H1, I1, r1, q1⟩ => ?_)
  obtain ⟨c, rfl, q1⟩ := q1
  cases r1
  refine wpAny_truthy_bool ?_
  cases c with
  | true => exact hb pins s1 σ H1 Q I1 q1
  | false => exact ⟨.bl false, H1, I1, rfl, q1⟩
noncomputable def zcc (t : TT) (ta tb : TE) : TE := fun σ H Q => t σ H fun c H1 => if c = true then ta σ H1 Q else tb σ H1 Q
theorem zcd {c : Expr} (hc : PT X c tA) (ha : PE X a ta) (hb : PE X b tb) : PE X (.IfExp c a b pos) (zcc tA ta tb) := by
  intro pins s σ H Q I h
  refine wpAny_IfExp (zq (hc pins s σ H _ I h) fun d s1 ⟨H1, I1, q1⟩ => ?_)
  cases d with
  | true => exact ha pins s1 σ H1 Q I1 q1
  | false => exact hb pins s1 σ H1 Q I1 q1
end
end L2
namespace L2
open PySem PySem.Spec PyProof.Rows
noncomputable def SqL (K : PySem.W.Frag) (H : Hp) (a : Addr) (xs : List V) : Prop :=
  Rd H a (.lst xs) ∨
    ∃ (o : Obj) (its : Array Value) (n : Nat), K.lookup a = some o ∧ o.cls = .type "list" ∧ o.dict = none ∧ o.data = .seq its n ∧ its.size ≤ sizeLine ∧ Vals xs its.toList
noncomputable def SqT (K : PySem.W.Frag) (H : Hp) (a : Addr) (xs : List V) : Prop :=
  Rd H a (.tup xs) ∨
    ∃ (o : Obj) (its : Array Value) (n : Nat), K.lookup a = some o ∧ o.cls = .type "tuple" ∧ o.data = .seq its n ∧ its.size ≤ sizeLine ∧ Vals xs its.toList
noncomputable def zce : Value → Option V
  | .none => some .non
  | .bool b => some (.bl b)
  | .int i _ => some (.int i)
  | .str x _ => some (.str x)
  | .bytes b _ => some (.byt b)
  | .float b _ => some (.flt b)
  | .ref a => some (.ref a)
  | .type n => some (.ty n)
  | _ => none
theorem RelV.abs {x : V} {u : Value} (r : RelV x u) : zce u = some x := by
  cases x with
  | non => cases r; rfl
  | bl _ => cases r; rfl
  | int _ => obtain ⟨t, rfl⟩ := r; rfl
  | str _ => obtain ⟨t, rfl⟩ := r; rfl
  | byt _ => obtain ⟨t, rfl⟩ := r; rfl
  | flt _ => obtain ⟨t, rfl⟩ := r; rfl
  | ref _ => cases r; rfl
  | ty _ => cases r; rfl
theorem RelV.inj {x y : V} {u : Value} (r : RelV x u) (q : RelV y u) : x = y := Option.some.inj (r.abs.symm.trans q.abs)
theorem Vals.inj : ∀ {xs ys : List V} {us : List Value}, Vals xs us → Vals ys us → xs = ys
  | _, _, _, .nil, .nil => rfl
  | _, _, _, .cons r t, .cons r' t' => by rw [r.inj r', Vals.inj t t']
section
variable {X : Cx} {pins : List (Addr × Obj)} {σ : St} {H : Hp} {s : Shared} {a : Addr} {xs ys : List V}
theorem SqL.of {K : PySem.W.Frag} (h : H a = some (.lst xs)) : SqL K H a xs := .inl (.inl h)
theorem SqT.of {K : PySem.W.Frag} (h : H a = some (.tup xs)) : SqT K H a xs := .inl (.inl h)
theorem Inv.list (I : Inv X pins σ H s) (h : SqL X.K H a xs) : ∃ its : List Value, Vals xs its ∧ PlainL s.heap a its.toArray ∧ xs.length ≤ sizeLine := by
  rcases h with h | ⟨o, its, n, hk, hc, hd, hs, hz, r⟩
  · obtain ⟨z, its, n, r, e⟩ := h.ok I.hok
    exact ⟨its, r, ⟨_, n, e, rfl, rfl, rfl⟩, z⟩
  · refine ⟨its.toList, r, ⟨o, n, I.kIn a o hk, hc, hd, by simpa using hs⟩, ?_⟩
    have e := r.length
    simp only [Array.length_toList] at e
    omega
theorem Inv.tuple (I : Inv X pins σ H s) (h : SqT X.K H a xs) : ∃ its : List Value, Vals xs its ∧ IsTup s.heap a its.toArray ∧ xs.length ≤ sizeLine := by
  rcases h with h | ⟨o, its, n, hk, hc, hs, hz, r⟩
  · obtain ⟨z, its, r, p⟩ := h.ok I.hok
    exact ⟨its, r, p, z⟩
  · refine ⟨its.toList, r, ⟨o, I.kIn a o hk, hc, n, by simpa using hs⟩, ?_⟩
    have e := r.length
    simp only [Array.length_toList] at e
    omega
theorem Inv.list_inj (I : Inv X pins σ H s) (h : SqL X.K H a xs) (h' : SqL X.K H a ys) : xs = ys := by
  obtain ⟨its, r, ⟨o, n, e, _, _, d⟩, _⟩ := I.list h
  obtain ⟨its', r', ⟨o', n', e', _, _, d'⟩, _⟩ := I.list h'
  rw [e] at e'; cases e'
  rw [d] at d'
  injection d' with d1 _
  have : its = its' := by simpa using congrArg Array.toList d1
  subst this
  exact r.inj r'
theorem Inv.tuple_inj (I : Inv X pins σ H s) (h : SqT X.K H a xs) (h' : SqT X.K H a ys) : xs = ys := by
  obtain ⟨its, r, ⟨o, e, _, n, d⟩, _⟩ := I.tuple h
  obtain ⟨its', r', ⟨o', e', _, n', d'⟩, _⟩ := I.tuple h'
  rw [e] at e'; cases e'
  rw [d] at d'
  injection d' with d1 _
  have : its = its' := by simpa using congrArg Array.toList d1
  subst this
  exact r.inj r'
end
noncomputable abbrev Cx.wish (X : Cx) (E : Value → Shared → Prop) : Cx := { X with xe := E }
noncomputable abbrev Cx.nox (X : Cx) : Cx := X.wish fun _ _ => False
theorem Cx.Ok.wish {X : Cx} (ok : X.Ok) (E : Value → Shared → Prop) : (X.wish E).Ok :=
  ⟨ok.mod, ok.kind, ok.glob, ok.blt, ok.above, ok.inj, ok.has, ok.cab, ok.hd, ok.frames, ok.stk, ok.exf, ok.bs, ok.bsz, ok.noex, ok.exfs, ok.funs, ok.frf⟩
theorem Cx.Ok.unwish {X : Cx} {E : Value → Shared → Prop} (ok : (X.wish E).Ok) : X.Ok :=
  ⟨ok.mod, ok.kind, ok.glob, ok.blt, ok.above, ok.inj, ok.has, ok.cab, ok.hd, ok.frames, ok.stk, ok.exf, ok.bs, ok.bsz, ok.noex, ok.exfs, ok.funs, ok.frf⟩
section
variable {X : Cx} {pins : List (Addr × Obj)} {σ : St} {H : Hp} {s : Shared} {E : Value → Shared → Prop}
theorem Inv.wish (I : Inv X pins σ H s) (E : Value → Shared → Prop) : Inv (X.wish E) pins σ H s := ⟨I.ok.wish E, I.os, I.bare, I.base, I.loc, I.cell, I.free, I.freeC, I.pin, I.hok, I.len⟩
theorem Inv.unwish (I : Inv (X.wish E) pins σ H s) : Inv X pins σ H s := ⟨I.ok.unwish, I.os, I.bare, I.base, I.loc, I.cell, I.free, I.freeC, I.pin, I.hok, I.len⟩
theorem SP.unwish {D : Ends} {f : Flow} {s' : Shared} (h : SP (X.wish E) pins D f s') : SP X pins D f s' := by
  cases f with
  | next => obtain ⟨σ', H', I, q⟩ := h; exact ⟨σ', H', I.unwish, q⟩
  | brk => obtain ⟨σ', H', I, q⟩ := h; exact ⟨σ', H', I.unwish, q⟩
  | cont => obtain ⟨σ', H', I, q⟩ := h; exact ⟨σ', H', I.unwish, q⟩
  | ret u => obtain ⟨v, σ', H', I, r, q⟩ := h; exact ⟨v, σ', H', I.unwish, r, q⟩
theorem PE.nox {e : Expr} {t : TE} (h : PE X.nox e t) : PE X e t := fun pins s σ H Q I hw =>
  wpAny_mono (h pins s σ H Q (I.wish _) hw) (fun _ _ ⟨v, H', I', r, q⟩ => ⟨v, H', I'.unwish, r, q⟩) fun _ _ z => False.elim z
theorem PT.nox {e : Expr} {t : TT} (h : PT X.nox e t) : PT X e t := fun pins s σ H Q I hw =>
  wpAny_mono (h pins s σ H Q (I.wish _) hw) (fun _ _ ⟨H', I', q⟩ => ⟨H', I'.unwish, q⟩) fun _ _ z => False.elim z
theorem PSs.nox {st : List Stmt} {t : TS} (h : PSs X.nox st t) : PSs X st t := fun pins s σ H D I hw =>
  wpAny_mono (h pins s σ H D (I.wish _) hw) (fun _ _ q => q.unwish) fun _ _ z => False.elim z
end
section
variable {X : Cx} {st : Stmt} {zX : List Stmt} {t u : TS} {e : Expr} {te : TE} {pos : Pos}
noncomputable def zcf : TS := fun D σ H => D.nx σ H
noncomputable def zcg (t u : TS) : TS := fun D σ H => t { D with nx := u D } σ H
theorem Yk : PSs X [] zcf := fun _ _ σ H _ I h => wpAny_execs_nil ⟨σ, H, I, h⟩
theorem Ym (h1 : PS X st t) (h2 : PSs X zX u) : PSs X (st :: zX) (zcg t u) := by
  intro pins s σ H D I h
  refine wpAny_execs_cons (zq (h1 pins s σ H { D with nx := u D } I h) fun f s1 q => ?_)
  cases f with
  | next =>
    obtain ⟨σ', H', I', q⟩ := q
    exact h2 pins s1 σ' H' D I' q
  | ret v => exact q
  | brk => exact q
  | cont => exact q
theorem Inv.quiet {pins : List (Addr × Obj)} {σ : St} {H : Hp} {s : Shared} (I : Inv X pins σ H s) : interactive X.env = false := by simp [interactive, I.ok.kind]
noncomputable def zch (te : TE) : TS := fun D σ H => te σ H fun _ H1 => D.nx σ H1
theorem Vk (he : PE X e te) (hs : swapsWith e none pos.line X.env = pure false := by rfl) : PS X (.Expr e pos) (zch te) := by
  intro pins s σ H D I h
  exact wpAny_Expr_any (zq (he pins s σ H _ I h) fun v s1 ⟨x, H1, I1, r1, q1⟩ => ⟨σ, H1, I1, q1⟩) I.quiet hs
noncomputable def zci (te : TE) : TS := fun D σ H => te σ H D.rt
theorem Yn (he : PE X e te) : PS X (.Return (some e) pos) (zci te) := by
  intro pins s σ H D I h
  exact wpAny_Return_some (zq (he pins s σ H _ I h) fun v s1 ⟨x, H1, I1, r1, q1⟩ => ⟨x, σ, H1, I1, r1, q1⟩)
noncomputable def zcj (c : TT) (t u : TS) : TS := fun D σ H => c σ H fun b H1 => if b = true then t D σ H1 else u D σ H1
theorem QR {c : Expr} {a b : List Stmt} {tc : TT} (hc : PT X c tc) (ha : PSs X a t) (hb : PSs X b u) : PS X (.If c a b pos) (zcj tc t u) := by
  intro pins s σ H D I h
  refine wpAny_If (zq (hc pins s σ H _ I h) fun d s1 ⟨H1, I1, q1⟩ => ?_)
  cases d with
  | true => exact ha pins s1 σ H1 D I1 q1
  | false => exact hb pins s1 σ H1 D I1 q1
noncomputable def zck : TS := fun _ _ _ => False
theorem zcl : PS X st zck := fun _ _ _ _ _ _ h => h.elim
end
noncomputable abbrev TG := V → St → Hp → (St → Hp → Prop) → Prop
noncomputable abbrev vD := List V → St → Hp → (St → Hp → Prop) → Prop
noncomputable def PG (X : Cx) (target : Expr) (t : TG) : Prop :=
  ∀ (pins : List (Addr × Obj)) (s : Shared) (σ : St) (H : Hp) (v : V) (u : Value) (Q : St → Hp → Prop), Inv X pins σ H s → RelV v u → t v σ H Q →
    wpAny (model X.prog X.w) X.A (assign target X.env u) (fun _ s' => ∃ σ' H', Inv X pins σ' H' s' ∧ Q σ' H') X.xe s
noncomputable def Yo (X : Cx) (ts : List Expr) (t : vD) : Prop :=
  ∀ (pins : List (Addr × Obj)) (s : Shared) (σ : St) (H : Hp) (vs : List V) (us : List Value) (Q : St → Hp → Prop), Inv X pins σ H s → Vals vs us → t vs σ H Q →
    wpAny (model X.prog X.w) X.A (assignInOrder ((assignEach ts X.env).map (·.2)) us) (fun _ s' => ∃ σ' H', Inv X pins σ' H' s' ∧ Q σ' H') X.xe s
section
variable {X : Cx} {pos : Pos}
noncomputable def jR (i : Nat) : TG := fun v σ H Q => Q (σ.set i (some v)) H
theorem Yp {i : Nat} {x : Str} (hN : X.N.Nodup) (hi : X.N[i]? = some x) (hx : wn X.env.scope x) (hf : X.fn x = true ∨ X.env.scope.names.lookup x = some .local := by first | exact .inl rfl | exact .inr rfl | assumption) : PG X (.Name x pos) (jR i) := by
  intro pins s σ H v u Q I r h
  exact wpAny_assign_Name (Vj I hN hi hx r (fun s' I' => ⟨_, H, I', h⟩) hf)
noncomputable def QS : vD := fun vs σ H Q => vs = [] ∧ Q σ H
noncomputable def Vl (t : TG) (u : vD) : vD := fun vs σ H Q => ∃ v r, vs = v :: r ∧ t v σ H fun σ' H' => u r σ' H' Q
theorem zcm : Yo X [] QS := by
  intro pins s σ H vs us Q I r h
  obtain ⟨e, h⟩ := h
  subst e
  cases r
  exact assignInOrder_nil ⟨σ, H, I, h⟩
theorem QT {e : Expr} {es : List Expr} {t : TG} {u : vD} (h1 : PG X e t) (h2 : Yo X es u)
    (hs : (assignEach (e :: es) X.env).map (·.2) = assign e X.env :: (assignEach es X.env).map (·.2) := by rfl) : Yo X (e :: es) (Vl t u) := by
  intro pins s σ H vs us Q I r h
  obtain ⟨v, vr, e1, h⟩ := h
  subst e1
  cases r with
  | cons r rr =>
    rw [hs]
    refine assignInOrder_cons (zq (h1 pins s σ H _ _ _ I r h) fun _ s1 ⟨σ1, H1, I1, q1⟩ => ?_)
    exact h2 pins s1 σ1 H1 _ _ Q I1 rr q1
noncomputable def QU (K : PySem.W.Frag) (n : Nat) (t : vD) : TG := fun v σ H Q => ∃ a xs, v = .ref a ∧ SqT K H a xs ∧ xs.length = n ∧ t xs σ H Q
theorem zcn {es : List Expr} {k : Nat} {t : vD} {n : Nat} (hc : X.calm = true) (h : Yo X es t)
    (hn : (assignEach es X.env).length = n := by rfl) (hst : (assignEach es X.env).findIdx? (·.1) = none := by rfl) : PG X (.Tuple es k pos) (QU X.K n t) := by
  intro pins s σ H v u Q I r hw
  obtain ⟨a, xs, e1, hq, hl, hw⟩ := hw
  subst e1
  cases r
  obtain ⟨its, rv, ht, hz⟩ := I.tuple hq
  refine assign_Tuple_tuple (I.ok.hd hc) ht (by simp [hn, ← hl, rv.length]) hst fun h' hx => ?_
  have I1 : Inv X pins σ H { s with heap := h' } := I.kept (t' := s.toks) fun b o e => hx b o (Nat.ne_of_lt (Heap.lt_size e)) e
  exact h pins _ σ H xs _ Q I1 (by simpa using rv) hw
noncomputable def zco (te : TE) (g : TG) : TS := fun D σ H => te σ H fun x H1 => g x σ H1 D.nx
theorem zcp {i : Nat} {x : Str} {e : Expr} {te : TE} {pos' : Pos} (hN : X.N.Nodup) (hi : X.N[i]? = some x) (hx : wn X.env.scope x) (he : PE X e te) (hs : swapsWith e (some (.Name x pos')) pos.line X.env = pure false := by rfl) (hf : X.fn x = true ∨ X.env.scope.names.lookup x = some .local := by first | exact .inl rfl | exact .inr rfl | assumption) :
    PS X (.Assign [.Name x pos'] e pos) (zco te (jR i)) := by
  intro pins s σ H D I h
  refine wpAny_Assign_Name (zq (he pins s σ H _ I h) fun v s1 ⟨y, H1, I1, r1, q1⟩ => ?_) hs
  exact Vj I1 hN hi hx r1 (fun s2 I2 => ⟨_, H1, I2, q1⟩) hf
end
structure It where
  go : Nat → Hp → Prop
  yld : Nat → Hp → V → Hp → Prop
  stop : Nat → Hp → Prop
noncomputable def xr (X : Cx) (pins : List (Addr × Obj)) (H : Hp) (b : Addr) : Prop :=
  H b = none ∧ b ≠ X.env.locals ∧ b ∉ X.fs ∧ (b ∈ X.ex ∨ X.s₀.heap.objs.size ≤ b) ∧ (∀ x c, X.env.cells.lookup x = some c → c ≠ b) ∧ ∀ p ∈ X.pn ++ pins, p.1 ≠ b
theorem Inv.fpOk {X : Cx} {pins : List (Addr × Obj)} {σ : St} {H H' : Hp} {s : Shared} {b : Addr} (I : Inv X pins σ H s) (hb : s.heap.objs.size ≤ b) (hn : H' b = none) : xr X pins H' b := by
  refine ⟨hn, Nat.ne_of_gt (Nat.lt_of_lt_of_le I.lt hb), I.nofs hb, .inr (Nat.le_trans I.sz hb), fun x c e z => ?_, fun p hp z => ?_⟩
  · obtain ⟨v, q⟩ := I.cell x c e
    exact absurd (Nat.lt_of_lt_of_le q.lt (by rw [z]; exact hb)) (Nat.lt_irrefl _)
  · exact absurd (Nat.lt_of_lt_of_le (Heap.lt_size (I.pin p hp).1) (by rw [z]; exact hb)) (Nat.lt_irrefl _)
structure Turn (P : Program) (w : World) (K : PySem.W.Frag) (tg : Expr) (J : It) (fp : List Addr) (it : Addr) (tn : Nat → Heap → Prop) : Prop where
  mem : it ∈ fp
  obj : ∀ i h, tn i h → ∀ b ∈ fp, ∃ o, h.get? b = some o ∧ ∀ v, o.data ≠ .cell v
  keep : ∀ i h h', tn i h → (∀ b ∈ fp, ∀ o, h.get? b = some o → h'.get? b = some o) → tn i h'
  item : ∀ (X : Cx), X.prog = P → X.w = w → X.K = K → X.calm = true → ∀ (i : Nat) (pins : List (Addr × Obj)) (s : Shared) (σ : St) (H : Hp) (E : Value → Shared → Prop), Inv X pins σ H s → (∀ b ∈ fp, xr X pins H b) → tn i s.heap → J.go i H →
    wpAny (model P w) X.A (pyNext (.ref it)) (fun r s1 => ∃ u, r = some u ∧
      wpAny (model P w) X.A (letOwnedTupleGo tg (.ref it) u) (fun _ s2 => ∃ x H', Inv X pins σ H' s2 ∧ RelV x u ∧ J.yld i H x H' ∧ tn (i + 1) s2.heap ∧ ∀ b ∈ fp, H' b = none) E s1) E s
  done : ∀ (X : Cx), X.prog = P → X.w = w → X.K = K → X.calm = true → ∀ (i : Nat) (pins : List (Addr × Obj)) (s : Shared) (σ : St) (H : Hp) (E : Value → Shared → Prop), Inv X pins σ H s → (∀ b ∈ fp, xr X pins H b) → tn i s.heap → J.stop i H →
    wpAny (model P w) X.A (pyNext (.ref it)) (fun r s1 => r = none ∧ Inv X pins σ H s1) E s
  self : ∀ (A : Around) (i : Nat) (s : Shared) (Q : Value → Shared → Prop) (E : Value → Shared → Prop), tn i s.heap → Q (.ref it) s → wpAny (model P w) A (pyIter (.ref it)) Q E s
noncomputable abbrev TI := St → Hp → (It → Hp → Prop) → Prop
noncomputable def QV (X : Cx) (pins : List (Addr × Obj)) (σ : St) (tg : Expr) (R : It → Hp → Prop) (itv : Value) (s2 : Shared) : Prop :=
  ∃ (it : Addr) (fp : List Addr) (tn : Nat → Heap → Prop) (J : It) (H' : Hp), itv = .ref it ∧ Inv X pins σ H' s2 ∧ Turn X.prog X.w X.K tg J fp it tn ∧ tn 0 s2.heap ∧ (∀ b ∈ fp, xr X pins H' b) ∧ R J H'
noncomputable def PI (X : Cx) (tg iter : Expr) (wi : TI) : Prop :=
  ∀ (pins : List (Addr × Obj)) (s : Shared) (σ : St) (H : Hp) (R : It → Hp → Prop), Inv X pins σ H s → wi σ H R →
    wpAny (model X.prog X.w) X.A (eval iter X.env) (fun v s1 => wpAny (model X.prog X.w) X.A (pyIter v) (QV X pins σ tg R) X.xe s1) X.xe s
theorem Yq {M : Model} {A : Around} {E : Value → Shared → Prop} {s : Shared} {tg : Expr} {it : Addr} {u : Value} {o : Obj} {n : String} {vs : Array Value} {Q : Unit → Shared → Prop} (ho : s.heap.get? it = some o) (hc : o.cls = .type n) (hd : o.data = .fields vs)
    (hn : ["enumerate", "zip", "dict_itemiterator", "dict_reverseitemiterator", "odict_iterator", "itertools.zip_longest", "itertools.pairwise"].contains n = false) (hQ : Q () s) : wpAny M A (letOwnedTupleGo tg (.ref it) u) Q E s := by
  unfold letOwnedTupleGo
  cases tg <;> first
    | exact wpAny_pure hQ
    | (cases u <;> first
        | exact wpAny_pure hQ
        | (refine wpAny_bind (wpAny_load ho ?_)
           rw [hc, hd]
           show wpAny M A (if (["enumerate", "zip", "dict_itemiterator", "dict_reverseitemiterator", "odict_iterator", "itertools.zip_longest", "itertools.pairwise"].contains n && vs[0]? == some (rawInt _)) = true then _ else _) Q E s
           rw [if_neg (by intro h; rw [hn, Bool.false_and] at h; cases h)]
           exact wpAny_pure hQ))
noncomputable def jS (K : PySem.W.Frag) (a : Addr) : It :=
  ⟨fun i H => ∃ xs x, SqL K H a xs ∧ xs[i]? = some x, fun i H x H' => H' = H ∧ ∀ xs, SqL K H a xs → xs[i]? = some x, fun i H => ∃ xs, SqL K H a xs ∧ xs.length ≤ i⟩
noncomputable def jT (K : PySem.W.Frag) (a : Addr) : It :=
  ⟨fun i H => ∃ xs x, SqT K H a xs ∧ xs[i]? = some x, fun i H x H' => H' = H ∧ ∀ xs, SqT K H a xs → xs[i]? = some x, fun i H => ∃ xs, SqT K H a xs ∧ xs.length ≤ i⟩
noncomputable def vE (lo : Int) (n : Nat) : It := ⟨fun i _ => i < n, fun i H x H' => H' = H ∧ x = .int (lo + i), fun i _ => n ≤ i⟩
theorem zcq {P : Program} {w : World} {K : PySem.W.Frag} {tg : Expr} (a it : Addr) : Turn P w K tg (jS K a) [it] it (fun i h => h.IsListIter it a i) where
  mem := by simp
  obj := fun i h st b hb => by
    have e : b = it := by simpa using hb
    subst e
    obtain ⟨o, e, c, d⟩ := st
    exact ⟨o, e, fun v z => by rw [d] at z; cases z⟩
  keep := fun i h h' st k => st.at fun o e => k it (by simp) o e
  item := by
    intro X hP hw hK hc i pins s σ H E I hf st hg
    subst hP hw hK
    obtain ⟨xs, x, hq, hx⟩ := hg
    obtain ⟨its, rv, p, hz⟩ := I.list hq
    obtain ⟨u, hu, ru⟩ := rv.get hx
    obtain ⟨f0, f1, f2, f3, f4, f5⟩ := hf it (by simp)
    refine wpAny_pyNext_list_item st p.isList (x := u) (by simpa using hu) fun h' st' sb => ?_
    have I1 : Inv X pins σ H { s with heap := h' } := I.turned (t' := s.toks) (fun b o hb e => (sb.2 b hb).trans e) f0 f1 f3 f4 f5
    obtain ⟨o, e, c, d⟩ := id st'
    exact ⟨u, rfl, Yq (s := { s with heap := h' }) e c d (by decide) ⟨x, H, I1, ru, ⟨rfl, fun ys hy => by rw [I.list_inj hy hq]; exact hx⟩, st', fun b hb => (hf b hb).1⟩⟩
  done := by
    intro X hP hw hK hc i pins s σ H E I hf st hg
    subst hP hw hK
    obtain ⟨xs, hq, hx⟩ := hg
    obtain ⟨its, rv, p, hz⟩ := I.list hq
    obtain ⟨f0, f1, f2, f3, f4, f5⟩ := hf it (by simp)
    have hl := rv.length
    exact wpAny_pyNext_list_end (I.ok.hd hc) st p.isList (by simp; omega) fun h' eb => ⟨rfl, I.turned (t' := s.toks) (fun b o hb e => eb b o hb e) f0 f1 f3 f4 f5⟩
  self := fun _ _ _ _ _ st h => wpAny_pyIter_listiter st h
theorem zcr {P : Program} {w : World} {K : PySem.W.Frag} {tg : Expr} (a it : Addr) : Turn P w K tg (jT K a) [it] it (fun i h => h.IsTupleIter it a i) where
  mem := by simp
  obj := fun i h st b hb => by
    have e : b = it := by simpa using hb
    subst e
    obtain ⟨o, e, c, d⟩ := st
    exact ⟨o, e, fun v z => by rw [d] at z; cases z⟩
  keep := fun i h h' st k => st.at fun o e => k it (by simp) o e
  item := by
    intro X hP hw hK hc i pins s σ H E I hf st hg
    subst hP hw hK
    obtain ⟨xs, x, hq, hx⟩ := hg
    obtain ⟨its, rv, p, hz⟩ := I.tuple hq
    obtain ⟨u, hu, ru⟩ := rv.get hx
    obtain ⟨f0, f1, f2, f3, f4, f5⟩ := hf it (by simp)
    refine wpAny_pyNext_tuple_item st (show s.heap.IsTuple a its.toArray from p) (x := u) (by simpa using hu) fun h' st' sb => ?_
    have I1 : Inv X pins σ H { s with heap := h' } := I.turned (t' := s.toks) (fun b o hb e => (sb.2 b hb).trans e) f0 f1 f3 f4 f5
    obtain ⟨o, e, c, d⟩ := id st'
    exact ⟨u, rfl, Yq (s := { s with heap := h' }) e c d (by decide) ⟨x, H, I1, ru, ⟨rfl, fun ys hy => by rw [I.tuple_inj hy hq]; exact hx⟩, st', fun b hb => (hf b hb).1⟩⟩
  done := by
    intro X hP hw hK hc i pins s σ H E I hf st hg
    subst hP hw hK
    obtain ⟨xs, hq, hx⟩ := hg
    obtain ⟨its, rv, p, hz⟩ := I.tuple hq
    obtain ⟨f0, f1, f2, f3, f4, f5⟩ := hf it (by simp)
    have hl := rv.length
    exact wpAny_pyNext_tuple_end (I.ok.hd hc) st (show s.heap.IsTuple a its.toArray from p) (by simp; omega) fun h' eb => ⟨rfl, I.turned (t' := s.toks) (fun b o hb e => eb b o hb e) f0 f1 f3 f4 f5⟩
  self := fun _ _ _ _ _ st h => wpAny_pyIter_tupleiter st h
theorem zcs {P : Program} {w : World} {K : PySem.W.Frag} {tg : Expr} (it : Addr) (lo : Int) (n : Nat) : Turn P w K tg (vE lo n) [it] it (fun i h => IsRangeIter h it (lo + (i : Nat) * 1) ((n : Int) - (i : Nat)) 1) where
  mem := by simp
  obj := fun i h st b hb => by
    have e : b = it := by simpa using hb
    subst e
    exact ⟨_, st, fun v z => by
      have z' : Data.fields _ = Data.cell v := z
      cases z'⟩
  keep := fun i h h' st k => k it (by simp) _ st
  item := by
    intro X hP hw hK hc i pins s σ H E I hf st hg
    subst hP hw hK
    obtain ⟨f0, f1, f2, f3, f4, f5⟩ := hf it (by simp)
    have W := Walks.range (prog := X.prog) (w := X.w) (I.ok.hd hc) it lo 1 n
    refine W.item i s _ _ hg st fun v h' tk hv st' kk => ?_
    obtain ⟨t, rfl⟩ := hv
    have I1 : Inv X pins σ H { s with heap := h', toks := tk } := I.turned (fun b o hb e => kk b o (by simpa using hb) e) f0 f1 f3 f4 f5
    refine ⟨_, rfl, Yq (s := { s with heap := h', toks := tk }) (n := "range_iterator") st' rfl rfl (by decide) ⟨.int (lo + i), H, I1, ⟨t, ?_⟩, ⟨rfl, rfl⟩, st', fun b hb => (hf b hb).1⟩⟩
    rw [Int.mul_one]
  done := by
    intro X hP hw hK hc i pins s σ H E I hf st hg
    subst hP hw hK
    obtain ⟨f0, f1, f2, f3, f4, f5⟩ := hf it (by simp)
    exact wpAny_pyNext_range_end (I.ok.hd hc) st (by have : n ≤ i := hg; omega) fun h' eb => ⟨rfl, I.turned (t' := s.toks) (fun b o hb e => eb b o hb e) f0 f1 f3 f4 f5⟩
  self := fun _ _ _ _ _ st h => wpAny_pyIter_rangeiter st h
end L2
namespace L2
open PySem PySem.Spec PyProof.Rows
section
variable {X : Cx} {tg : Expr}
theorem QW {pins : List (Addr × Obj)} {σ : St} {H : Hp} {s : Shared} {R : It → Hp → Prop} {E : Value → Shared → Prop} {lo hi : Int} {t u v : Tok} {tk : Nat} (I : Inv X pins σ H s) (h1 : -(2 ^ 62) ≤ lo) (h2 : lo < 2 ^ 62) (h3 : -(2 ^ 62) ≤ hi) (h4 : hi < 2 ^ 62)
    (q : R (vE lo (hi - lo).toNat) H) : wpAny (model X.prog X.w) X.A (pyIter (.ref s.heap.objs.size)) (QV X pins σ tg R) E { s with heap := s.heap.push { cls := .type "range", data := .fields #[.int lo t, .int hi u, .int 1 v] }, toks := tk } := by
  refine wpAny_pyIter_range (IsRange.new ..) (small_one h1 h2 h3 h4) ?_
  have I1 : Inv X pins σ H { s with heap := s.heap.push { cls := .type "range", data := .fields #[.int lo t, .int hi u, .int 1 v] }, toks := tk } := I.kept fun b o e => Heap.get?_push_of_some _ e
  refine ⟨(s.heap.push { cls := .type "range", data := .fields #[.int lo t, .int hi u, .int 1 v] }).objs.size, [(s.heap.push { cls := .type "range", data := .fields #[.int lo t, .int hi u, .int 1 v] }).objs.size], _, _, H, rfl,
    I1.kept (t' := tk) fun b o e => Heap.get?_push_of_some _ e, zcs _ lo (hi - lo).toNat, ?_, fun b hb => ?_, q⟩
  · have e1 : lo + ((0 : Nat) : Int) * 1 = lo := by simp
    have e2 : (((hi - lo).toNat : Nat) : Int) - ((0 : Nat) : Int) = Builtin.Range.rangeSize lo hi 1 := by rw [rangeSize_one]; split <;> omega
    show IsRangeIter _ _ (lo + ((0 : Nat) : Int) * 1) ((((hi - lo).toNat : Nat) : Int) - ((0 : Nat) : Int)) 1
    rw [e1, e2]
    exact Heap.get?_push_size _ rfl
  · have e : b = (s.heap.push { cls := .type "range", data := .fields #[.int lo t, .int hi u, .int 1 v] }).objs.size := by simpa using hb
    subst e
    exact I1.fpOk (Nat.le_refl _) (I1.hok.fresh (Nat.le_refl _))
noncomputable def zct (ta : TA) : TI := fun σ H R => ta σ H fun vs H1 => ∃ j : Int, vs = [.int j] ∧ -(2 ^ 62) ≤ j ∧ j < 2 ^ 62 ∧ R (vE 0 j.toNat) H1
noncomputable def zcu (ta : TA) : TI := fun σ H R => ta σ H fun vs H1 => ∃ i j : Int, vs = [.int i, .int j] ∧ (-(2 ^ 62) ≤ i ∧ i < 2 ^ 62 ∧ -(2 ^ 62) ≤ j ∧ j < 2 ^ 62) ∧ R (vE i (j - i).toNat) H1
theorem zcv {a : Expr} {ta : TA} {p pos : Pos} (hg : Gl X "range") (hm : X.mg "range" = none) (ha : PA X [a] ta) (hs : starEach [a] X.env = [(false, eval a X.env)] := by rfl) : PI X tg (.Call (.Name "range" p) [a] [] pos) (zct ta) := by
  intro pins s σ H R I h
  refine Call_ (jh I hg hm boot_range (PyProof.Rows.callWith_type1 (zq (ha pos pins s σ H _ I h) fun us s1 ⟨vs, H1, I1, r1, q1⟩ => ?_) hs rfl))
  obtain ⟨j, e, q1, q2, q⟩ := q1
  subst e
  cases r1 with
  | cons r rr =>
    cases rr
    obtain ⟨t, rfl⟩ := r
    exact call_range_1 (QW I1 (by omega) (by omega) q1 q2 (by simpa using q))
theorem zcw {a b : Expr} {ta : TA} {p pos : Pos} (hg : Gl X "range") (hm : X.mg "range" = none) (ha : PA X [a, b] ta) (hs : starEach [a, b] X.env = [(false, eval a X.env), (false, eval b X.env)] := by rfl) (hs2 : starEach [b] X.env = [(false, eval b X.env)] := by rfl) :
    PI X tg (.Call (.Name "range" p) [a, b] [] pos) (zcu ta) := by
  intro pins s σ H R I h
  refine Call_ (jh I hg hm boot_range (PyProof.Rows.callWith_type1 (zq (ha pos pins s σ H _ I h) fun us s1 ⟨vs, H1, I1, r1, q1⟩ => ?_) (by rw [hs, hs2]) (by rw [hs2]; rfl)))
  obtain ⟨i, j, e, ⟨q1, q2, q3, q4⟩, q⟩ := q1
  subst e
  cases r1 with
  | cons r rr =>
    cases rr with
    | cons r' rr =>
      cases rr
      obtain ⟨t, rfl⟩ := r
      obtain ⟨t', rfl⟩ := r'
      exact call_range_2 (QW I1 q1 q2 q3 q4 q)
noncomputable def zcx (wi : TI) (g : TG) (tb : TS) : TS := fun D σ H => wi σ H fun J H1 => ∃ W : Nat → Nat → St → Hp → Prop, (∃ m, W 0 m σ H1) ∧ ∀ i m σ H, W i m σ H →
  (J.stop i H ∧ D.nx σ H) ∨ (J.go i H ∧ ∃ N : St → Hp → Prop, (∀ σ' H', N σ' H' → ∃ m', m' < m ∧ W (i + 1) m' σ' H') ∧ ∀ x H', J.yld i H x H' → g x σ H' fun σ2 H2 => tb { D with nx := N, ct := N, bk := D.nx } σ2 H2)
noncomputable def jU (fp : List Addr) (h : Heap) : List (Addr × Obj) := fp.filterMap fun b => (h.get? b).map fun o => (b, o)
theorem Yr {fp : List Addr} {h : Heap} {b : Addr} {o : Obj} (hb : b ∈ fp) (e : h.get? b = some o) : (b, o) ∈ jU fp h := List.mem_filterMap.mpr ⟨b, hb, by rw [e]; rfl⟩
theorem zcy {fp : List Addr} {h : Heap} {p : Addr × Obj} (hp : p ∈ jU fp h) : p.1 ∈ fp ∧ h.get? p.1 = some p.2 := by
  obtain ⟨b, hb, e⟩ := List.mem_filterMap.mp hp
  cases q : h.get? b with
  | none => rw [q] at e; cases e
  | some o =>
    rw [q] at e
    have e' : (b, o) = p := Option.some.inj e
    subst e'
    exact ⟨hb, q⟩
theorem Inv.pinned {pins : List (Addr × Obj)} {σ : St} {H : Hp} {s : Shared} {fp : List Addr} (I : Inv X pins σ H s) (hf : ∀ b ∈ fp, xr X pins H b) (ho : ∀ b ∈ fp, ∃ o, s.heap.get? b = some o ∧ ∀ v, o.data ≠ .cell v) : Inv X (pins ++ jU fp s.heap) σ H s :=
  I.pins_of fun p hp => (List.mem_append.mp hp).elim (fun z => I.pin p (List.mem_append_right _ z)) fun z => by
    obtain ⟨hb, e⟩ := zcy z
    obtain ⟨f0, f1, f2, _⟩ := hf p.1 hb
    obtain ⟨o, e', d⟩ := ho p.1 hb
    rw [e] at e'; cases e'
    exact ⟨e, f0, f1, f2, d⟩
theorem Inv.unpinned {pins pl : List (Addr × Obj)} {σ : St} {H : Hp} {s : Shared} (I : Inv X (pins ++ pl) σ H s) : Inv X pins σ H s := I.pins_of fun p hp => I.pin p (List.mem_append_right _ (List.mem_append_left _ hp))
theorem QX {iter : Expr} {body : List Stmt} {wi : TI} {g : TG} {tb : TS} {pos : Pos} (hp : PassesOwn (model X.prog X.w) X.A X.env X.xe) (hc : X.calm = true) (hi : PI X tg iter wi) (hg : PG X tg g) (hb : PSs X body tb)
    (hs : ∀ x, foldedSetIterable iter X.env x = pure x := by intro _; rfl) : PS X (.For tg iter body [] pos) (zcx wi g tb) := by
  intro pins s σ H D I h
  refine wpAny_For (zq (hi pins s σ H _ I h) fun v s1 h1 => zq h1 fun itv s2 h2 => ?_) hs
  obtain ⟨it, fp, tn, J, H2, e, I2, T, st2, f2, W, ⟨m0, w0⟩, turn⟩ := h2
  subst e
  have stat : ∀ {H' : Hp}, (∀ b ∈ fp, H' b = none) → ∀ b ∈ fp, xr X pins H' b := fun hn b hb => ⟨hn b hb, (f2 b hb).2⟩
  refine codeAny_forLoop_any (fun n s' => ∃ i σ' H', Inv X pins σ' H' s' ∧ tn i s'.heap ∧ (∀ b ∈ fp, H' b = none) ∧ W i n σ' H') ?_ m0 ⟨0, σ, H2, I2, st2, fun b hb => (f2 b hb).1, w0⟩
  rintro n s3 ⟨i, σ3, H3, I3, st3, fr3, w3⟩
  rcases turn i n σ3 H3 w3 with ⟨stop, qn⟩ | ⟨go, N, hN, step⟩
  · refine wpAny_passesOwn hp (zq (T.done X rfl rfl rfl hc i pins s3 σ3 H3 X.xe I3 (stat fr3) st3 stop) fun r s4 ⟨hr, I4⟩ => ?_)
    subst hr
    exact wpAny_execs_nil ⟨σ3, H3, I4, qn⟩
  · refine wpAny_passesOwn hp (zq (T.item X rfl rfl rfl hc i pins s3 σ3 H3 X.xe I3 (stat fr3) st3 go) fun r s4 ⟨u, hr, h4⟩ => ?_)
    subst hr
    refine wpAny_passesOwn hp (zq h4 fun _ s5 ⟨x, H5, I5, r5, y5, st5, fr5⟩ => ?_)
    have I5' := I5.pinned (stat fr5) (T.obj _ _ st5)
    refine wpAny_passesOwn hp (zq (hg _ s5 σ3 H5 x u _ I5' r5 (step x H5 y5)) fun _ s6 ⟨σ6, H6, I6, q6⟩ => ?_)
    refine wpAny_passesOwn hp (zq (hb _ s6 σ6 H6 _ I6 q6) fun f s7 q7 => ?_)
    have again : ∀ {σ7 : St} {H7 : Hp}, Inv X (pins ++ jU fp s5.heap) σ7 H7 s7 → N σ7 H7 → ∃ m, m < n ∧ ∃ i σ' H', Inv X pins σ' H' s7 ∧ tn i s7.heap ∧ (∀ b ∈ fp, H' b = none) ∧ W i m σ' H' := fun {σ7 H7} I7 n7 => by
      obtain ⟨m', hm, w7⟩ := hN σ7 H7 n7
      refine ⟨m', hm, i + 1, σ7, H7, I7.unpinned, T.keep _ _ _ st5 fun b hb o e => (I7.pin (b, o) (List.mem_append_right _ (List.mem_append_right _ (Yr hb e)))).1, fun b hb => ?_, w7⟩
      obtain ⟨o, e, d⟩ := T.obj _ _ st5 b hb
      exact (I7.pin (b, o) (List.mem_append_right _ (List.mem_append_right _ (Yr hb e)))).2.1
    cases f with
    | next => obtain ⟨σ7, H7, I7, n7⟩ := q7; exact again I7 n7
    | cont => obtain ⟨σ7, H7, I7, n7⟩ := q7; exact again I7 n7
    | brk => obtain ⟨σ7, H7, I7, q7⟩ := q7; exact ⟨σ7, H7, I7.unpinned, q7⟩
    | ret v => obtain ⟨x7, σ7, H7, I7, r7, q7⟩ := q7; exact ⟨x7, σ7, H7, I7.unpinned, r7, q7⟩
end
end L2
namespace L2
open PySem PySem.Spec PyProof.Rows
noncomputable abbrev R2 := V → V → Hp → VK → Prop
noncomputable def OpR (X : Cx) (f : Value → Value → Sem Value) (r : R2) : Prop :=
  ∀ (pins : List (Addr × Obj)) (s : Shared) (σ : St) (H : Hp) (x y : V) (v u : Value) (Q : VK), Inv X pins σ H s → RelV x v → RelV y u → r x y H Q →
    wpAny (model X.prog X.w) X.A (f v u) (EP X pins σ Q) X.xe s
noncomputable def jV (X : Cx) (f : Value → Sem Value) (r : V → Hp → VK → Prop) : Prop :=
  ∀ (pins : List (Addr × Obj)) (s : Shared) (σ : St) (H : Hp) (x : V) (v : Value) (Q : VK), Inv X pins σ H s → RelV x v → r x H Q →
    wpAny (model X.prog X.w) X.A (f v) (EP X pins σ Q) X.xe s
noncomputable def CallR (X : Cx) (f : Value) (r : List V → Hp → VK → Prop) : Prop :=
  ∀ (pins : List (Addr × Obj)) (s : Shared) (σ : St) (H : Hp) (xs : List V) (us : List Value) (Q : VK), Inv X pins σ H s → Vals xs us → r xs H Q →
    wpAny (model X.prog X.w) X.A (call f us) (EP X pins σ Q) X.xe s
noncomputable def zcz (X : Cx) (r : V → Hp → (Bool → Hp → Prop) → Prop) : Prop :=
  ∀ (pins : List (Addr × Obj)) (s : Shared) (σ : St) (H : Hp) (x : V) (v : Value) (Q : Bool → Hp → Prop), Inv X pins σ H s → RelV x v → r x H Q →
    wpAny (model X.prog X.w) X.A (truthy v) (TP X pins σ Q) X.xe s
noncomputable def jW (r : R2) (ta tb : TE) : TE := fun σ H Q => ta σ H fun x H1 => tb σ H1 fun y H2 => r x y H2 Q
noncomputable def zcA (r : V → Hp → VK → Prop) (ta : TE) : TE := fun σ H Q => ta σ H fun x H1 => r x H1 Q
noncomputable def rI (C : Int → Int → Prop) (g : Int → Int → V) : R2 := fun x y H Q => ∃ i j, x = .int i ∧ y = .int j ∧ C i j ∧ Q (g i j) H
noncomputable def vF (g : Int → Int → V) : R2 := fun x y H Q => ∃ i j, x = .int i ∧ y = .int j ∧ Q (g i j) H
noncomputable def rU (g : Int → V) : V → Hp → VK → Prop := fun x H Q => ∃ i, x = .int i ∧ Q (g i) H
section
variable {X : Cx} {a b c : Expr} {ta tb tc : TE} {pos : Pos}
theorem Vm (ha : PE X a ta) (hb : PE X b tb) {pins : List (Addr × Obj)} {s : Shared} {σ : St} {H : Hp} {R : V → V → Hp → Prop} (I : Inv X pins σ H s)
    (h : ta σ H fun x H1 => tb σ H1 fun y H2 => R x y H2) {Q : Value → Shared → Prop} {f : Value → Value → Sem Value}
    (hf : ∀ v u s2 x y H2, Inv X pins σ H2 s2 → RelV x v → RelV y u → R x y H2 → wpAny (model X.prog X.w) X.A (f v u) Q X.xe s2) :
    wpAny (model X.prog X.w) X.A (eval a X.env) (fun v s₁ => wpAny (model X.prog X.w) X.A (eval b X.env) (fun u s₂ => wpAny (model X.prog X.w) X.A (f v u) Q X.xe s₂) X.xe s₁) X.xe s := by
  refine zq (ha pins s σ H _ I h) fun v s1 ⟨x, H1, I1, r1, q1⟩ => ?_
  refine zq (hb pins s1 σ H1 _ I1 q1) fun u s2 ⟨y, H2, I2, r2, q2⟩ => ?_
  exact hf v u s2 x y H2 I2 r1 r2 q2
theorem zcB {op : Operator} {r : R2} (ho : OpR X (binaryOp op) r) (ha : PE X a ta) (hb : PE X b tb) : PE X (.BinOp a op b pos) (jW r ta tb) := by
  intro pins s σ H Q I h
  exact wpAny_BinOp (Vm ha hb I h fun v u s2 x y H2 I2 rx ry q => ho pins s2 σ H2 x y v u Q I2 rx ry q)
theorem zcC {op : UnaryOp} {r : V → Hp → VK → Prop} (ho : jV X (unaryOp op) r) (ha : PE X a ta) : PE X (.UnaryOp op a pos) (zcA r ta) := by
  intro pins s σ H Q I h
  exact UnaryOp_ (zq (ha pins s σ H _ I h) fun v s1 ⟨x, H1, I1, r1, q1⟩ => ho pins s1 σ H1 x v Q I1 r1 q1)
theorem QY {f : Value → Value → Sem Value} {C : Int → Int → Prop} {g : Int → Int → Int}
    (rule : ∀ (i j : Int) (t u : Tok) (s : Shared) (Q : Value → Shared → Prop) (E : Value → Shared → Prop), C i j → Q (.int (g i j) s.toks) { s with toks := s.toks + 1 } → wpAny (model X.prog X.w) X.A (f (.int i t) (.int j u)) Q E s) :
    OpR X f (rI C fun i j => .int (g i j)) := by
  intro pins s σ H x y v u Q I rx ry h
  obtain ⟨i, j, rfl, rfl, hc, q⟩ := h
  obtain ⟨t, rfl⟩ := rx
  obtain ⟨t', rfl⟩ := ry
  exact rule i j t t' s _ _ hc ⟨.int (g i j), H, I.tok _, ⟨_, rfl⟩, q⟩
theorem QZ {f : Value → Value → Sem Value} {g : Int → Int → Int}
    (rule : ∀ (i j : Int) (t u : Tok) (s : Shared) (Q : Value → Shared → Prop) (E : Value → Shared → Prop), Q (.int (g i j) s.toks) { s with toks := s.toks + 1 } → wpAny (model X.prog X.w) X.A (f (.int i t) (.int j u)) Q E s) :
    OpR X f (vF fun i j => .int (g i j)) := by
  intro pins s σ H x y v u Q I rx ry h
  obtain ⟨i, j, rfl, rfl, q⟩ := h
  obtain ⟨t, rfl⟩ := rx
  obtain ⟨t', rfl⟩ := ry
  exact rule i j t t' s _ _ ⟨.int (g i j), H, I.tok _, ⟨_, rfl⟩, q⟩
theorem Vn {f : Value → Value → Sem Value} {g : Int → Int → Bool}
    (rule : ∀ (i j : Int) (t u : Tok) (s : Shared) (Q : Value → Shared → Prop) (E : Value → Shared → Prop), Q (.bool (g i j)) s → wpAny (model X.prog X.w) X.A (f (.int i t) (.int j u)) Q E s) :
    OpR X f (vF fun i j => .bl (g i j)) := by
  intro pins s σ H x y v u Q I rx ry h
  obtain ⟨i, j, rfl, rfl, q⟩ := h
  obtain ⟨t, rfl⟩ := rx
  obtain ⟨t', rfl⟩ := ry
  exact rule i j t t' s _ _ ⟨.bl (g i j), H, I, rfl, q⟩
noncomputable def CMul (i j : Int) : Prop := (-(2 ^ 64) < i ∧ i < 2 ^ 64) ∨ (-(2 ^ 64) < j ∧ j < 2 ^ 64)
theorem CMul.ok {i j : Int} (h : CMul i j) : IntMulOk i j := by
  rcases h with ⟨h1, h2⟩ | ⟨h1, h2⟩
  · exact .of_left (intBits_le_64 h1 h2)
  · exact .of_right (intBits_le_64 h1 h2)
theorem zcD : OpR X (binaryOp .Add) (vF fun i j => .int (i + j)) := QZ fun _ _ _ _ _ _ _ q => add_int q
theorem zcE : OpR X (binaryOp .Sub) (vF fun i j => .int (i - j)) := QZ fun _ _ _ _ _ _ _ q => sub_int q
theorem zcF : OpR X (binaryOp .Mult) (rI CMul fun i j => .int (i * j)) := QY fun _ _ _ _ _ _ _ hc q => mul_int q hc.ok
theorem zcG : OpR X (binaryOp .Mod) (rI (fun _ j => 0 < j) fun i j => .int (i % j)) := QY fun i j _ _ _ _ _ hc q => by
  have h1 : (0 : Int) < j := hc
  exact mod_int' (by omega) (by rw [Int.fmod_eq_emod_of_nonneg i (by omega)]; exact q)
theorem zcH {f : Value → Sem Value} {g : Int → Int}
    (rule : ∀ (i : Int) (t : Tok) (s : Shared) (Q : Value → Shared → Prop) (E : Value → Shared → Prop), Q (.int (g i) s.toks) { s with toks := s.toks + 1 } → wpAny (model X.prog X.w) X.A (f (.int i t)) Q E s) :
    jV X f (rU fun i => .int (g i)) := by
  intro pins s σ H x v Q I rx h
  obtain ⟨i, rfl, q⟩ := h
  obtain ⟨t, rfl⟩ := rx
  exact rule i t s _ _ ⟨.int (g i), H, I.tok _, ⟨_, rfl⟩, q⟩
theorem zcI : jV X (unaryOp .USub) (rU fun i => .int (-i)) := zcH fun _ _ _ _ _ q => neg_int q
end
noncomputable def ka : V → V → Bool
  | .non, .non => true | .non, .int _ => true | .int _, .non => true | .non, .bl _ => true | .bl _, .non => true | .non, .str _ => true | .str _, .non => true
  | .int _, .int _ => true | .bl _, .bl _ => true | .str _, .str _ => true | .byt _, .byt _ => true
  | .int _, .str _ => true | .str _, .int _ => true | .bl _, .str _ => true | .str _, .bl _ => true
  | _, _ => false
noncomputable def zcJ : R2 := fun x y H Q => ka x y = true ∧ Q (.bl (decide (x = y))) H
noncomputable def zcK : R2 := fun x y H Q => ka x y = true ∧ Q (.bl (!decide (x = y))) H
theorem kb {i j : Int} : decide (V.int i = V.int j) = (i == j) := by
  rw [Bool.eq_iff_iff]
  simp
theorem kc {i j : Bool} : decide (V.bl i = V.bl j) = (i == j) := by
  rw [Bool.eq_iff_iff]
  simp
theorem kd {i j : Str} : decide (V.str i = V.str j) = (i == j) := by
  rw [Bool.eq_iff_iff]
  simp
theorem ke {i j : Array UInt8} : decide (V.byt i = V.byt j) = (i.toList == j.toList) := by
  rw [Bool.eq_iff_iff]
  cases i
  cases j
  simp
section
variable {X : Cx} {a b c : Expr} {ta tb tc : TE} {pos : Pos}
theorem ya {pins : List (Addr × Obj)} {σ : St} {H : Hp} {s : Shared} {Q : VK} {k k' : Bool} (I : Inv X pins σ H s) (q : Q (.bl k) H) (e : k = k') : EP X pins σ Q (.bool k') s := by
  subst e
  exact ⟨.bl k, H, I, rfl, q⟩
theorem zcL : OpR X (compareOp .Eq) zcJ := by
  intro pins s σ H x y v u Q I rx ry h
  obtain ⟨hs, q⟩ := h
  cases x with
  | non =>
    cases rx
    cases y with
    | non => cases ry; exact PySem.EqNone.eq_none_none (ya I q (by simp))
    | bl j => cases ry; exact PySem.EqNone.eq_none_bool (ya I q (by simp))
    | int j => obtain ⟨t', rfl⟩ := ry; exact PySem.EqNone.eq_none_int (ya I q (by simp))
    | str j => obtain ⟨t', rfl⟩ := ry; exact PySem.EqNone.eq_none_str (ya I q (by simp))
    | _ => exact absurd (show false = true from hs) Bool.false_ne_true
  | bl i =>
    cases rx
    cases y with
    | non => cases ry; exact PySem.EqNone.eq_bool_none (ya I q (by simp))
    | bl j => cases ry; exact eq_bool (ya I q kc)
    | str j => obtain ⟨t', rfl⟩ := ry; exact PySem.EqMixed.eq_bool_str (ya I q (by simp))
    | _ => exact absurd (show false = true from hs) Bool.false_ne_true
  | int i =>
    obtain ⟨t, rfl⟩ := rx
    cases y with
    | non => cases ry; exact PySem.EqNone.eq_int_none (ya I q (by simp))
    | int j => obtain ⟨t', rfl⟩ := ry; exact eq_int (ya I q kb)
    | str j => obtain ⟨t', rfl⟩ := ry; exact PySem.EqMixed.eq_int_str (ya I q (by simp))
    | _ => exact absurd (show false = true from hs) Bool.false_ne_true
  | str i =>
    obtain ⟨t, rfl⟩ := rx
    cases y with
    | non => cases ry; exact PySem.EqNone.eq_str_none (ya I q (by simp))
    | bl j => cases ry; exact PySem.EqMixed.eq_str_bool (ya I q (by simp))
    | int j => obtain ⟨t', rfl⟩ := ry; exact PySem.EqMixed.eq_str_int (ya I q (by simp))
    | str j => obtain ⟨t', rfl⟩ := ry; exact eq_str (ya I q kd)
    | _ => exact absurd (show false = true from hs) Bool.false_ne_true
  | byt i =>
    obtain ⟨t, rfl⟩ := rx
    cases y with
    | byt j => obtain ⟨t', rfl⟩ := ry; exact PySem.W.eq_bytes (ya I q ke)
    | _ => exact absurd (show false = true from hs) Bool.false_ne_true
  | _ => cases y <;> exact absurd (show false = true from hs) Bool.false_ne_true
theorem zcM : OpR X (compareOp .NotEq) zcK := by
  intro pins s σ H x y v u Q I rx ry h
  obtain ⟨hs, q⟩ := h
  cases x with
  | non =>
    cases rx
    cases y with
    | non => cases ry; exact PySem.EqNone.ne_none_none (ya I q (by simp))
    | bl j => cases ry; exact PySem.EqNone.ne_none_bool (ya I q (by simp))
    | int j => obtain ⟨t', rfl⟩ := ry; exact PySem.EqNone.ne_none_int (ya I q (by simp))
    | str j => obtain ⟨t', rfl⟩ := ry; exact PySem.EqNone.ne_none_str (ya I q (by simp))
    | _ => exact absurd (show false = true from hs) Bool.false_ne_true
  | bl i =>
    cases rx
    cases y with
    | non => cases ry; exact PySem.EqNone.ne_bool_none (ya I q (by simp))
    | bl j => cases ry; exact ne_bool (ya I q (congrArg not kc))
    | str j => obtain ⟨t', rfl⟩ := ry; exact PySem.EqMixed.ne_bool_str (ya I q (by simp))
    | _ => exact absurd (show false = true from hs) Bool.false_ne_true
  | int i =>
    obtain ⟨t, rfl⟩ := rx
    cases y with
    | non => cases ry; exact PySem.EqNone.ne_int_none (ya I q (by simp))
    | int j => obtain ⟨t', rfl⟩ := ry; exact ne_int (ya I q (congrArg not kb))
    | str j => obtain ⟨t', rfl⟩ := ry; exact PySem.EqMixed.ne_int_str (ya I q (by simp))
    | _ => exact absurd (show false = true from hs) Bool.false_ne_true
  | str i =>
    obtain ⟨t, rfl⟩ := rx
    cases y with
    | non => cases ry; exact PySem.EqNone.ne_str_none (ya I q (by simp))
    | bl j => cases ry; exact PySem.EqMixed.ne_str_bool (ya I q (by simp))
    | int j => obtain ⟨t', rfl⟩ := ry; exact PySem.EqMixed.ne_str_int (ya I q (by simp))
    | str j => obtain ⟨t', rfl⟩ := ry; exact ne_str (ya I q (congrArg not kd))
    | _ => exact absurd (show false = true from hs) Bool.false_ne_true
  | byt i =>
    obtain ⟨t, rfl⟩ := rx
    cases y with
    | byt j => obtain ⟨t', rfl⟩ := ry; exact PySem.W.ne_bytes (ya I q (congrArg not ke))
    | _ => exact absurd (show false = true from hs) Bool.false_ne_true
  | _ => cases y <;> exact absurd (show false = true from hs) Bool.false_ne_true
theorem zcN : OpR X (compareOp .Lt) (vF fun i j => .bl (decide (i < j))) := Vn fun _ _ _ _ _ _ _ q => lt_int q
theorem zcO : OpR X (compareOp .LtE) (vF fun i j => .bl (decide (i ≤ j))) := Vn fun _ _ _ _ _ _ _ q => le_int q
theorem zcP : OpR X (compareOp .Gt) (vF fun i j => .bl (decide (j < i))) := Vn fun _ _ _ _ _ _ _ q => gt_int q
theorem zcQ : OpR X (compareOp .NotIn) (fun x y H Q => ∃ i j, x = .str i ∧ y = .str j ∧ Q (.bl (!(!(Builtin.Str.occurrences j i 0 j.length 1).isEmpty))) H) := by
  intro pins s σ H x y v u Q I rx ry h
  obtain ⟨i, j, rfl, rfl, q⟩ := h
  obtain ⟨t, rfl⟩ := rx
  obtain ⟨t', rfl⟩ := ry
  exact notIn_str (ya I q rfl)
noncomputable def zcR : HO → Bool
  | .lst _ => true
  | .ins _ _ _ => true
  | _ => false
theorem obj_there {pins : List (Addr × Obj)} {s : Shared} {σ : St} {H : Hp} {a : Addr} {o : HO} (I : Inv X pins σ H s) (h : H a = some o) (p : zcR o = true) : ∃ ob, s.heap.get? a = some ob ∧ ob.cls ≠ .type "tuple" := by
  cases o with
  | lst xs =>
    obtain ⟨_, its, n, _, e⟩ : xs.length ≤ sizeLine ∧ ∃ (its : List Value) (n : Nat), Vals xs its ∧ s.heap.get? a = some { cls := .type "list", data := .seq its.toArray n } := I.hok a _ h
    exact ⟨_, e, (by show Value.type "list" ≠ .type "tuple"; decide +kernel)⟩
  | ins C dx fs =>
    have x := I.hok a _ h
    obtain ⟨_, _, _, e, _⟩ := x
    exact ⟨_, e, (by show Value.ref C ≠ .type "tuple"; exact fun z => by cases z)⟩
  | _ => exact absurd (show false = true from p) Bool.false_ne_true
theorem OpR.or {f : Value → Value → Sem Value} {r r' : R2} (h : OpR X f r) (h' : OpR X f r') : OpR X f (fun x y H Q => r x y H Q ∨ r' x y H Q) := by
  intro pins s σ H x y v u Q I rx ry q
  rcases q with q | q
  · exact h pins s σ H x y v u Q I rx ry q
  · exact h' pins s σ H x y v u Q I rx ry q
theorem yr (b : Expr) {op : CmpOp} (h : op ≠ .In := by decide) (h2 : op ≠ .NotIn := by decide) : behindInMarks op b = false := by
  have e1 : (op == CmpOp.In) = false := by cases op <;> first | rfl | exact absurd rfl h
  have e2 : (op == CmpOp.NotIn) = false := by cases op <;> first | rfl | exact absurd rfl h2
  cases b <;> simp [behindInMarks, e1, e2]
theorem zcS {op : CmpOp} {r : R2} (ho : OpR X (compareOp op) r) (ha : PE X a ta) (hb : PE X b tb) (hm : behindInMarks op b = false) : PE X (.Compare a [op] [b] pos) (jW r ta tb) := by
  intro pins s σ H Q I h
  exact wpAny_Compare1 (Vm ha hb I h fun v u s2 x y H2 I2 rx ry q => ho pins s2 σ H2 x y v u Q I2 rx ry q) hm
noncomputable def kf (t : TE) : TT := fun σ H Q => t σ H fun x H' => ∃ k, x = .bl k ∧ Q k H'
theorem zcT {op : CmpOp} {r : R2} (ho : OpR X (compareOp op) r) (ha : PE X a ta) (hb : PE X b tb) (hm : behindInMarks op b = false) : PT X (.Compare a [op] [b] pos) (kf (jW r ta tb)) := by
  intro pins s σ H Q I h
  refine wpAny_isTrue_Compare1 (zq (ha pins s σ H _ I h) fun v s1 ⟨x, H1, I1, r1, q1⟩ => zq (hb pins s1 σ H1 _ I1 q1) fun u s2 ⟨y, H2, I2, r2, q2⟩ =>
    zq (ho pins s2 σ H2 x y v u _ I2 r1 r2 q2) fun c s3 ⟨z, H3, I3, r3, k, e, q3⟩ => ?_) hm
  subst e
  cases r3
  exact wpAny_truthy_bool ⟨H3, I3, q3⟩
noncomputable def kg (r r' : R2) (ta tb tc : TE) : TE := fun σ H Q => ta σ H fun x H1 => tb σ H1 fun y H2 => r x y H2 fun z H3 => ∃ k, z = .bl k ∧
  (if k = true then tc σ H3 fun w' H4 => r' y w' H4 Q else Q (.bl false) H3)
theorem zcU {op op' : CmpOp} {r r' : R2} (ho : OpR X (compareOp op) r) (ho' : OpR X (compareOp op') r') (ha : PE X a ta) (hb : PE X b tb) (hc : PE X c tc)
    (hm : lastMarks [op, op'] [b, c] = false := by with_unfolding_all rfl) : PE X (.Compare a [op, op'] [b, c] pos) (kg r r' ta tb tc) := by
  intro pins s σ H Q I h
  refine Compare_chain (zq (ha pins s σ H _ I h) fun v s1 ⟨x, H1, I1, r1, q1⟩ => chain_link (zq (hb pins s1 σ H1 _ I1 q1) fun u s2 ⟨y, H2, I2, r2, q2⟩ =>
    zq (ho pins s2 σ H2 x y v u _ I2 r1 r2 q2) fun d s3 ⟨z, H3, I3, r3, k, e, q3⟩ => ?_)) hm
  subst e
  cases r3
  refine wpAny_truthy_bool ?_
  cases k with
  | false => exact ite_ff ⟨.bl false, H3, I3, rfl, q3⟩
  | true => exact ite_tt (chain_last (zq (hc pins s3 σ H3 _ I3 q3) fun w' s4 ⟨z', H4, I4, r4, q4⟩ => ho' pins s4 σ H4 y z' u w' Q I4 r2 r4 q4))
theorem zcV {op op' : CmpOp} {r r' : R2} (ho : OpR X (compareOp op) r) (ho' : OpR X (compareOp op') r') (ha : PE X a ta) (hb : PE X b tb) (hc : PE X c tc)
    (hm : lastMarks [op, op'] [b, c] = false := by with_unfolding_all rfl) : PT X (.Compare a [op, op'] [b, c] pos) (kf (kg r r' ta tb tc)) := by
  intro pins s σ H Q I h
  refine isTrue_chain (zq (ha pins s σ H _ I h) fun v s1 ⟨x, H1, I1, r1, q1⟩ => test_link (zq (hb pins s1 σ H1 _ I1 q1) fun u s2 ⟨y, H2, I2, r2, q2⟩ =>
    zq (ho pins s2 σ H2 x y v u _ I2 r1 r2 q2) fun d s3 ⟨z, H3, I3, r3, k, e, q3⟩ => ?_)) hm
  subst e
  cases r3
  refine wpAny_truthy_bool ?_
  cases k with
  | false =>
    obtain ⟨k', e', q'⟩ := q3
    cases e'
    exact ite_ff ⟨H3, I3, q'⟩
  | true =>
    refine ite_tt (test_last (zq (hc pins s3 σ H3 _ I3 q3) fun w' s4 ⟨z', H4, I4, r4, q4⟩ => zq (ho' pins s4 σ H4 y z' u w' _ I4 r2 r4 q4) fun d' s5 ⟨z2, H5, I5, r5, k2, e2, q5⟩ => ?_))
    subst e2
    cases r5
    exact wpAny_truthy_bool ⟨H5, I5, q5⟩
noncomputable def Vo (K : PySem.W.Frag) (x : V) (H : Hp) (k : Bool) : Prop :=
  match x with
  | .non => k = false
  | .bl b => k = b
  | .int i => k = (i != 0)
  | .str y => y.length ≤ sizeLine ∧ k = ((y.length : Int) != 0)
  | .byt y => y.size ≤ sizeLine ∧ k = ((y.size : Int) != 0)
  | .ref p => (∃ xs, SqL K H p xs ∧ k = !xs.isEmpty) ∨ (∃ xs, SqT K H p xs ∧ k = !xs.isEmpty) ∨ ∃ kvs, H p = some (.dK kvs) ∧ k = !kvs.isEmpty
  | _ => False
theorem zcW {κ : Type} {kvs : List (κ × V)} {vs : List (κ × Value)} (r : KV kvs vs) : (!vs.isEmpty) = !kvs.isEmpty := by
  cases r <;> rfl
theorem kh {xs : List V} {its : List Value} (r : Vals xs its) : (!its.toArray.isEmpty) = !xs.isEmpty := by
  cases r <;> simp
theorem ji : (sizeLine : Nat) < 2 ^ 63 := by rw [sizeLine_eq]; decide
theorem zcX : zcz X (fun x H Q => ∃ k, Vo X.K x H k ∧ Q k H) := by
  intro pins s σ H x v Q I rx h
  obtain ⟨k, e, q⟩ := h
  have hl := ji
  have hs : sizeLine = 16777216 := sizeLine_eq
  cases x with
  | non =>
    cases rx
    have e' : k = false := e
    subst e'
    exact truthy_none ⟨H, I, q⟩
  | bl b =>
    cases rx
    have e' : k = b := e
    subst e'
    exact wpAny_truthy_bool ⟨H, I, q⟩
  | int i =>
    obtain ⟨t, rfl⟩ := rx
    have e' : k = (i != 0) := e
    subst e'
    exact PySem.P.truthy_int ⟨H, I, q⟩
  | str y =>
    obtain ⟨t, rfl⟩ := rx
    obtain ⟨hy, e'⟩ : y.length ≤ sizeLine ∧ k = ((y.length : Int) != 0) := e
    subst e'
    exact PySem.P.truthy_str (by omega) ⟨H, I.tok _, q⟩
  | byt y =>
    obtain ⟨t, rfl⟩ := rx
    obtain ⟨hy, e'⟩ : y.size ≤ sizeLine ∧ k = ((y.size : Int) != 0) := e
    subst e'
    exact PySem.W.truthy_bytes (by omega) ⟨H, I.tok _, q⟩
  | ref p =>
    cases rx
    have e' : (∃ xs, SqL X.K H p xs ∧ k = !xs.isEmpty) ∨ (∃ xs, SqT X.K H p xs ∧ k = !xs.isEmpty) ∨ ∃ kvs, H p = some (.dK kvs) ∧ k = !kvs.isEmpty := e
    rcases e' with ⟨xs, hx, e'⟩ | ⟨xs, hx, e'⟩ | ⟨kvs, hx, e'⟩
    · subst e'
      obtain ⟨its, r, pl, hz⟩ := I.list hx
      have hlen := r.length
      exact wpAny_truthy_list pl.isList (by simp only [List.size_toArray]; omega) ⟨H, I.tok _, by rw [kh r]; exact q⟩
    · subst e'
      obtain ⟨its, r, pl, hz⟩ := I.tuple hx
      have hlen := r.length
      exact truthy_tuple pl (by simp only [List.size_toArray]; omega) ⟨H, I.tok _, by rw [kh r]; exact q⟩
    · subst e'
      obtain ⟨hz, hS, vs, r, m⟩ : kvs.length ≤ sizeLine ∧ (p == sysModules) = false ∧ ∃ vs, KV kvs vs ∧ s.heap.DictOf (wk X.prog X.w) p vs := I.hok p _ hx
      have hlen : kvs.length = vs.length := Paired.length r
      exact wpAny_truthy_dict hS m (by omega) ⟨H, I.tok _, by rw [zcW r]; exact q⟩
  | _ => exact (show False from e).elim
theorem zcY (ha : PE X a ta) (he : ∀ whole, isTrue a X.env whole = (do let v ← whole; standAt a.pos; holding [v] (truthy v))) :
    PT X a (fun σ H Q => ta σ H fun x H' => ∃ k, Vo X.K x H' k ∧ Q k H') := by
  intro pins s σ H Q I h
  exact isTrue_plain (zq (ha pins s σ H _ I h) fun v s1 ⟨x, H1, I1, r1, q1⟩ => zcX pins s1 σ H1 x v Q I1 r1 q1) (he _)
theorem zcZ : OpR X (binaryOp .Add) (fun x y H Q => ∃ i j, x = .str i ∧ y = .str j ∧ i.length + j.length ≤ sizeLine ∧ Q (.str (i ++ j)) H) := by
  intro pins s σ H x y v u Q I rx ry h
  obtain ⟨i, j, rfl, rfl, hz, q⟩ := h
  obtain ⟨t, rfl⟩ := rx
  obtain ⟨t', rfl⟩ := ry
  exact add_str (fun t' tk => ⟨.str (i ++ j), H, I.tok _, ⟨_, rfl⟩, q⟩) hz
theorem wo {x : V} {us : List Value} (r : Vals [x] us) : ∃ u, us = [u] ∧ RelV x u := by
  cases r with
  | cons r1 r2 => cases r2; exact ⟨_, rfl, r1⟩
theorem zc0 {x y : V} {us : List Value} (r : Vals [x, y] us) : ∃ u w', us = [u, w'] ∧ RelV x u ∧ RelV y w' := by
  cases r with
  | cons r1 r2 =>
    cases r2 with
    | cons r3 r4 => cases r4; exact ⟨_, _, rfl, r1, r3⟩
theorem ki : CallR X (.type "int") (fun xs H Q => (∃ i, xs = [.int i] ∧ Q (.int i) H) ∨ ∃ k, xs = [.bl k] ∧ Q (.int (if k then 1 else 0)) H) := by
  intro pins s σ H xs us Q I r h
  rcases h with ⟨i, rfl, q⟩ | ⟨k, rfl, q⟩
  · obtain ⟨u, rfl, t, rfl⟩ := wo r
    exact call_int_int ⟨.int i, H, I, ⟨_, rfl⟩, q⟩
  · obtain ⟨u, rfl, r1⟩ := wo r
    cases r1
    exact call_int_bool ⟨.int (if k then 1 else 0), H, I.tok _, ⟨_, rfl⟩, q⟩
end
end L2
namespace L2
open PySem PySem.Spec PyProof.Rows
structure ObjM (h : Heap) (x dx C : Addr) (mA : Str → Option Value) : Prop where
  obj : h.get? x = some (PySem.W.instObj C dx)
  ns : h.Ns1 dx mA
  ne : dx ≠ x
theorem zc1 {h : Heap} {dx : Addr} {mA : Str → Option Value} (n : h.Ns1 dx mA) : ∃ od, h.get? dx = some od ∧ ∀ name, PySem.W.lookIn name od = some (mA name) := by
  obtain ⟨o, es, ep, ho, hd, hk, _, hm⟩ := n
  refine ⟨o, ho, fun name => ?_⟩
  have e := hm name
  unfold nsFind findBy at e
  rw [← Array.find?_toList] at e
  unfold PySem.W.lookIn
  rw [hd]
  dsimp only
  split
  · rename_i y q
    rw [q] at e
    exact congrArg some e
  · rename_i q
    rw [q] at e
    have a : es.toList.any (·.refKey) = false := by
      rw [List.any_eq_false]
      intro y hy
      obtain ⟨z, t, hkey⟩ := hk y (Array.mem_toList_iff.mp hy)
      simp [DictEntry.refKey, hkey]
    have a' : ¬ es.toList.any (·.refKey) = true := by rw [a]; exact Bool.false_ne_true
    rw [if_neg a']
    exact congrArg some e
theorem ObjM.look {h : Heap} {x dx C : Addr} {mA : Str → Option Value} (I : ObjM h x dx C mA) : ∃ od, PySem.W.InstAt h x (PySem.W.instObj C dx) C (some od) ∧ ∀ name, PySem.W.lookIn name od = some (mA name) :=
  let ⟨od, ho, hl⟩ := zc1 I.ns
  ⟨od, ⟨I.obj, rfl, rfl, ho⟩, hl⟩
theorem RelO.some_of {v : V} {o : Option Value} (r : RelO (some v) o) : ∃ u, o = some u ∧ RelV v u := by
  cases o with
  | none => exact (show False from r).elim
  | some u => exact ⟨u, rfl, r⟩
structure Cls (K : PySem.W.Frag) (C : Addr) : Prop where
  pg : PySem.W.plainGet K C Str.empty = true
  hd : PySem.W.hasDictIn K C = true
  po : PySem.W.plainOver K C = true
  sa : PySem.W.findIn K (.ref C) "__setattr__" = some (some (.builtin "object.__setattr__"))
theorem Cls.get {K : PySem.W.Frag} {C : Addr} (c : Cls K C) (f : Str) : PySem.W.plainGet K C f = true := c.pg
end L2
namespace L2
open PySem PySem.Spec PyProof.Rows
structure Room (k : Nat) (A : Around) : Prop where
  hd : A.handled = none
  dp : A.depth + 3 * k + 5 < recursionLimit
  un : A.units + 16 * k + 200 < cLine
theorem Room.deeper {k : Nat} {A : Around} (r : Room (k + 1) A) (env : Env) : Room k (A.deeper env) :=
  ⟨r.hd, by have := r.dp; show A.depth + 1 + 3 * k + 5 < _; omega, by have := r.un; show A.units + 3 + 16 * k + 200 < _; omega⟩
theorem Room.in1 {k : Nat} {A : Around} (r : Room (k + 1) A) : Room k A.in1 :=
  ⟨r.hd, by have := r.dp; show A.depth + 3 * k + 5 < _; omega, by have := r.un; show A.units + 1 + 16 * k + 200 < _; omega⟩
theorem Room.depth {k : Nat} {A : Around} (r : Room k A) : A.depth < recursionLimit := by have := r.dp; omega
theorem Room.units {k : Nat} {A : Around} (r : Room k A) : A.units + 64 < cLine := by have := r.un; omega
noncomputable def zc2 : TA := fun _ H Q => Q [] H
noncomputable def zc3 (ta : TE) (tr : TA) : TA := fun σ H Q => ta σ H fun x H1 => tr σ H1 fun xs H2 => Q (x :: xs) H2
section
variable {X : Cx} {e : Expr} {es : List Expr} {te : TE} {t : TA} {pos : Pos}
theorem vi : PA X [] zc2 := fun _ _ _ _ H Q I h => Calls.spliced_nil ⟨[], H, I, .nil, h⟩
theorem wB (ha : PE X e te) (hr : PA X es t) (hs : starEach (e :: es) X.env = (false, eval e X.env) :: starEach es X.env := by rfl) : PA X (e :: es) (zc3 te t) := by
  intro pos pins s σ H Q I h
  rw [hs]
  show wpAny _ _ (spliced ((false, eval e X.env) :: backTo pos (starEach es X.env))) _ _ s
  refine Calls.spliced_cons (zq (ha pins s σ H _ I h) fun u s1 ⟨x, H1, I1, r1, q1⟩ => ?_)
  exact zq (hr pos pins s1 σ H1 _ I1 q1) fun us s2 ⟨xs, H2, I2, r2, q2⟩ => ⟨x :: xs, H2, I2, .cons r1 r2, q2⟩
noncomputable def zc4 (t : TA) : TE := fun σ H Q => t σ H fun xs H1 => xs.length ≤ sizeLine ∧ ∀ p, H1 p = none → Q (.ref p) (zJ H1 p (.tup xs))
noncomputable def zc5 (t : TA) : TE := fun σ H Q => t σ H fun xs H1 => xs.length ≤ sizeLine ∧ ∀ p, H1 p = none → Q (.ref p) (zJ H1 p (.lst xs))
theorem zc6 {x1} (h : PA X es t) : PE X (.Tuple es x1 pos) (zc4 t) := by
  intro pins s σ H Q I hq
  refine wpAny_Tuple_spliced (zq (h pos pins s σ H _ I hq) fun us s1 ⟨xs, H1, I1, r, z, q⟩ => ⟨by rw [← r.length]; exact z, ?_⟩)
  have hf : H1 s1.heap.objs.size = none := I1.hok.fresh (Nat.le_refl _)
  refine ⟨.ref s1.heap.objs.size, zJ H1 s1.heap.objs.size (.tup xs), I1.laid (t' := s1.toks) (fun b u e => Heap.get?_push_of_some _ e) (Nat.le_refl _) ?_, rfl, q _ hf⟩
  exact ⟨z, us, r, ⟨_, Heap.get?_push_size _ rfl, rfl, _, rfl⟩⟩
theorem zc7 (h : PA X es t) : PE X (.List es pos) (zc5 t) := by
  intro pins s σ H Q I hq
  refine wpAny_List_spliced (zq (h pos pins s σ H _ I hq) fun us s1 ⟨xs, H1, I1, r, z, q⟩ => ⟨by rw [← r.length]; exact z, ?_⟩)
  have hf : H1 s1.heap.objs.size = none := I1.hok.fresh (Nat.le_refl _)
  refine ⟨.ref s1.heap.objs.size, zJ H1 s1.heap.objs.size (.lst xs), I1.laid (t' := s1.toks) (fun b u e => Heap.get?_push_of_some _ e) (Nat.le_refl _) ?_, rfl, q _ hf⟩
  exact ⟨z, us, 0, r, Heap.get?_push_size _ rfl⟩
end
noncomputable abbrev Sp := List V → Hp → VK → XK → Prop
noncomputable abbrev xA := List Env → Hp → Shared → XK → Value → Shared → Prop
structure Env0 (P : Program) (w : World) (K : PySem.W.Frag) (mg : Str → Option Value) (base : Heap) (A : Around) (outer : List Env) (s : Shared) (H : Hp) : Prop where
  frames : A.frames = some outer
  mod : Mod K mg base
  bs : ∀ b o, base.get? b = some o → s.heap.get? b = some o ∧ H b = none
  bsz : base.objs.size ≤ s.heap.objs.size
  funs : s.heap.FunFrames base outer
  frf : ∀ b ∈ zM outer, H b = none
  hok : HOk P w H s.heap
  bare : AllBare s.gens
noncomputable def CE (outer : List Env) (P : Program) (w : World) (H : Hp) (s : Shared) (Q : VK) (u : Value) (s' : Shared) : Prop :=
  ∃ v H', s'.os = s.os ∧ AllBare s'.gens ∧ Un (zM outer) [] H H' s.heap s'.heap ∧ HOk P w H' s'.heap ∧ RelV v u ∧ Q v H'
noncomputable def CR (CX : xA) (outer : List Env) (P : Program) (w : World) (H : Hp) (s : Shared) (Q : VK) (E : XK) (r : Result) (s' : Shared) : Prop :=
  match r with
  | .ok (.ret u) => CE outer P w H s Q u s'
  | .ok _ => False
  | .error e => CX outer H s E e s'
structure FnOk (P : Program) (w : World) (K : PySem.W.Frag) (mg : Str → Option Value) (base : Heap) (CX : xA) (k : Nat) (f : Addr) (fd : FuncData) (ps : List Str) (sp : Sp) : Prop where
  len : ∀ vs H Q E, sp vs H Q E → vs.length = ps.length
  run : ∀ (A : Around) (outer : List Env) (s : Shared) (H : Hp) (args : Args) (us : List Value) (vs : List V) (Q : VK) (E : XK), Room k A → Env0 P w K mg base A outer s H → BindsTo s fd args (ps.zip us) → Vals vs us → sp vs H Q E →
    codeAny (model P w) A (.call (.ref f) args) (CR CX outer P w H s Q E) s
theorem FnOk.imp {P : Program} {w : World} {K : PySem.W.Frag} {mg : Str → Option Value} {base : Heap} {CX : xA} {k : Nat} {f : Addr} {fd : FuncData} {ps : List Str} {sp sp' : Sp} (F : FnOk P w K mg base CX k f fd ps sp)
    (h : ∀ vs H Q E, sp' vs H Q E → sp vs H Q E) : FnOk P w K mg base CX k f fd ps sp' :=
  ⟨fun vs H Q E q => F.len vs H Q E (h _ _ _ _ q), fun A outer s H args us vs Q E hr he hb hv hs => F.run A outer s H args us vs Q E hr he hb hv (h _ _ _ _ hs)⟩
theorem Env0.in1 {P : Program} {w : World} {K : PySem.W.Frag} {mg : Str → Option Value} {base : Heap} {A : Around} {outer : List Env} {s : Shared} {H : Hp} (e : Env0 P w K mg base A outer s H) :
    Env0 P w K mg base A.in1 outer s H := ⟨e.frames, e.mod, e.bs, e.bsz, e.funs, e.frf, e.hok, e.bare⟩
section
variable {X : Cx} {pins : List (Addr × Obj)} {σ : St} {H : Hp} {s s' : Shared}
theorem Inv.env0 (I : Inv X pins σ H s) : Env0 X.prog X.w X.K X.mg X.base X.A X.stack s H :=
  ⟨I.ok.frames, I.ok.mod, I.bs, Nat.le_trans I.ok.bsz I.sz, I.stack, I.stkFree, I.hok, I.bare⟩
theorem Inv.after {Q : VK} {u : Value} (I : Inv X pins σ H s) (h : CE X.stack X.prog X.w H s Q u s') : EP X pins σ Q u s' := by
  obtain ⟨v, H', os, bare, un, hok, r, q⟩ := h
  obtain ⟨hh, g, d, t, os'⟩ := s'
  obtain rfl : os' = s.os := os
  exact ⟨v, H', I.call (h' := hh) (g' := g) (d' := d) (t' := t) (ch := []) un hok bare (fun b z => absurd z (by simp)), r, q⟩
end
noncomputable def zc8 (sp : Sp) (dvs : List V) (E : XK) (t : TA) : TE := fun σ H Q => t σ H fun vs H1 => sp (vs ++ dvs) H1 Q E
noncomputable def Binds (K : PySem.W.Frag) (fd : FuncData) (ps : List Str) (ds : List Value) : Prop :=
  ∀ (s : Shared) (us : List Value), K.In s.heap → (us ++ ds).length = ps.length → BindsTo s fd ⟨us, []⟩ (ps.zip (us ++ ds))
theorem Binds.all {K : PySem.W.Frag} {fd : FuncData} {ps : List Str} (h : ∀ us : List Value, us.length = ps.length → bindArgs fd ⟨us, []⟩ = pure (ps.zip us)) : Binds K fd ps [] := fun s us _ hl => by
  rw [List.append_nil] at hl ⊢
  exact .of_eq (h us hl)
noncomputable def vj (CX : xA) (X : Cx) (E : XK) : Prop := ∀ (pins : List (Addr × Obj)) (σ : St) (H : Hp) (s : Shared) (e : Value) (s' : Shared), Inv X pins σ H s → CX X.stack H s E e s' → X.xe e s'
section
variable {X : Cx} {CX : xA} {k : Nat} {f C : Addr} {fd : FuncData} {ps : List Str} {sp : Sp} {dvs : List V} {ds : List Value} {E : XK} {x m : Str} {p pos apos : Pos} {e o : Expr} {es : List Expr} {ta : TE} {t : TA}
theorem zc9 {pins : List (Addr × Obj)} {σ : St} {H : Hp} {s : Shared} {Q : VK} {us : List Value} {vs : List V} (F : FnOk X.prog X.w X.K X.mg X.base CX k f fd ps sp) (hr : Room k X.A) (hb : Binds X.K fd ps ds) (hd : Vals dvs ds) (hx : vj CX X E)
    (I : Inv X pins σ H s) (r : Vals vs us) (h : sp (vs ++ dvs) H Q E) : wpAny (model X.prog X.w) X.A (call (.ref f) us) (EP X pins σ Q) X.xe s := by
  have r2 : Vals (vs ++ dvs) (us ++ ds) := r.append hd
  have hl : (us ++ ds).length = ps.length := by rw [← r2.length]; exact F.len _ _ _ _ h
  refine wpAny_call (codeAny_mono (F.run X.A X.stack s H ⟨us, []⟩ (us ++ ds) (vs ++ dvs) Q E hr I.env0 (hb s us I.kIn hl) r2 h) fun r s' hq => ?_)
  cases r with
  | error e => exact hx pins σ H s e s' I hq
  | ok fl =>
    cases fl with
    | ret u => exact I.after hq
    | next => exact False.elim hq
    | brk => exact False.elim hq
    | cont => exact False.elim hq
theorem kj (F : FnOk X.prog X.w X.K X.mg X.base CX k f fd ps sp) (hr : Room k X.A) (hg : Gl X x) (hm : X.mg x = some (.ref f)) (hk : PySem.W.keepIn X.K (.ref f) = true) (hb : Binds X.K fd ps ds) (hd : Vals dvs ds) (hx : vj CX X E)
    (ha : PA X (e :: es) t) (hdb : (x == ("__debug__" : Str)) = false := by decide) (he : starEach (e :: es) X.env = (false, eval e X.env) :: starEach es X.env := by rfl) (hpl : (backTo pos (starEach es X.env)).any (·.1) = false := by rfl) :
    PE X (.Call (.Name x p) (e :: es) [] pos) (zc8 sp dvs E t) := by
  intro pins s σ H Q I h
  refine wpAny_Call_Name_kw (jQ I hg hm ?_ hdb)
  refine PySem.W.callWith_K (h₀ := X.base) I.ok.mod.kin hk (zq (ha pos pins s σ H _ I h) fun us s1 ⟨vs, H1, I1, r, q⟩ => ⟨I1.kIn, ?_⟩) he hpl
  exact zc9 F hr hb hd hx I1 r q
end
structure FnScope (N P : List Str) (sc : Scope) : Prop where
  kind : sc.kind = .function
  co : sc.isCoroutine = false
  gen : sc.isGenerator = false
  nd : N.Nodup
  pre : N.take P.length = P
  par : ∀ x ∈ P, sc.names.lookup x = some .local ∨ sc.names.lookup x = some .cell
  nofree : ∀ y ∈ sc.names, y.2 ≠ .free
theorem kl {kindOf : Str → Option NameKind} {x : Str} : ∀ {binds : List (Str × Value)} {m : Str → Option Value}, (∀ v, (x, v) ∉ binds) → bindL kindOf binds m x = m x
  | [], _, _ => rfl
  | (n, v) :: r, m, h => by
    unfold bindL
    rw [kl fun w hw => h w (List.mem_cons_of_mem _ hw)]
    split
    · have : x ≠ n := by rintro rfl; exact h v List.mem_cons_self
      simp [this]
    · rfl
theorem km {kindOf : Str → Option NameKind} {x : Str} : ∀ {binds : List (Str × Value)} {m : Str → Option Value}, (∀ v, (x, v) ∉ binds) → bindC kindOf binds m x = m x
  | [], _, _ => rfl
  | (n, v) :: r, m, h => by
    unfold bindC
    rw [km fun w hw => h w (List.mem_cons_of_mem _ hw)]
    split
    · rfl
    · have : x ≠ n := by rintro rfl; exact h v List.mem_cons_self
      simp [this]
theorem kn {kindOf : Str → Option NameKind} {x : Str} {v : Value} : ∀ {P : List Str} {vs : List Value} {i : Nat} {m : Str → Option Value}, P.Nodup → P[i]? = some x → vs[i]? = some v → kindOf x = some .local →
    bindL kindOf (P.zip vs) m x = some v
  | [], _, _, _, _, h, _, _ => by simp at h
  | _ :: _, [], _, _, _, _, h, _ => by simp at h
  | p :: P, w :: vs, 0, m, nd, h1, h2, hk => by
    simp at h1 h2; subst h1; subst h2
    show bindL kindOf ((p, w) :: P.zip vs) m p = _
    unfold bindL
    rw [kl fun v hv => (List.nodup_cons.mp nd).1 (List.of_mem_zip hv).1, if_pos hk]
    simp
  | p :: P, w :: vs, i + 1, m, nd, h1, h2, hk => by
    show bindL kindOf ((p, w) :: P.zip vs) m x = _
    unfold bindL
    exact kn (i := i) (List.nodup_cons.mp nd).2 (by simpa using h1) (by simpa using h2) hk
theorem ko {kindOf : Str → Option NameKind} {x : Str} {v : Value} : ∀ {P : List Str} {vs : List Value} {i : Nat} {m : Str → Option Value}, P.Nodup → P[i]? = some x → vs[i]? = some v → kindOf x ≠ some .local →
    bindC kindOf (P.zip vs) m x = some v
  | [], _, _, _, _, h, _, _ => by simp at h
  | _ :: _, [], _, _, _, _, h, _ => by simp at h
  | p :: P, w :: vs, 0, m, nd, h1, h2, hk => by
    simp at h1 h2; subst h1; subst h2
    show bindC kindOf ((p, w) :: P.zip vs) m p = _
    unfold bindC
    rw [km fun v hv => (List.nodup_cons.mp nd).1 (List.of_mem_zip hv).1, if_neg hk]
    simp
  | p :: P, w :: vs, i + 1, m, nd, h1, h2, hk => by
    show bindC kindOf ((p, w) :: P.zip vs) m x = _
    unfold bindC
    exact ko (i := i) (List.nodup_cons.mp nd).2 (by simpa using h1) (by simpa using h2) hk
noncomputable def yV (N : List Str) (vs : List V) : St := vs.map some ++ List.replicate (N.length - vs.length) none
noncomputable def xg (CX : xA) (P : Program) (w : World) (K : PySem.W.Frag) (mg : Str → Option Value) (base : Heap) (N : List Str) (qual : Str) (scope : Scope) (f : Addr) (cd : Value) (A : Around) (outer : List Env) (s : Shared) (H : Hp) (E : XK) : Cx where
  prog := P
  w := w
  K := K
  mg := mg
  base := base
  A := A.deeper (envOfC qual scope s.heap.objs.size f cd)
  N := N
  s₀ := s
  H₀ := H
  env := envOfC qual scope s.heap.objs.size f cd
  outer := outer
  stack := envOfC qual scope s.heap.objs.size f cd :: outer
  ex := []
  calm := true
  fn := fun _ => true
  pn := []
  xe := fun e s' => wpAny (model P w) (A.deeper (envOfC qual scope s.heap.objs.size f cd)) (leaving (envOfC qual scope s.heap.objs.size f cd) e) (fun _ s'' => CX outer H s E e s'') (fun e' s'' => CX outer H s E e' s'') s'
theorem kq {sc : Scope} {n : Nat} {x : Str} (h : sc.names.lookup x = some .cell) : ∃ c, (cellsFrom n sc.names []).lookup x = some c := by
  have q := PySem.W.cellsFrom_some sc.names n [] (.inl h)
  exact Option.isSome_iff_exists.mp q
theorem zda {CX : xA} {P : Program} {w : World} {K : PySem.W.Frag} {mg : Str → Option Value} {base : Heap} {N ps : List Str} {qual : Str} {scope : Scope} {f : Addr} {cd : Value} {A : Around} {outer : List Env} {s s1 : Shared} {H : Hp} {E : XK} {us : List Value} {vs : List V}
    (S : FnScope N ps scope) (hd : A.handled = none) (e0 : Env0 P w K mg base A outer s H) (hl : vs.length = ps.length) (r : Vals vs us)
    (x : InCallC s s.heap.objs.size (bindL (envOfC qual scope s.heap.objs.size f cd).kindOf (ps.zip us) fun _ => none) (cellsFrom (s.heap.objs.size + 1) scope.names []) (bindC (envOfC qual scope s.heap.objs.size f cd).kindOf (ps.zip us) fun _ => none) s1) :
    Inv (xg CX P w K mg base N qual scope f cd A outer s H E) [] (yV N vs) H s1 := by
  have hpl : ps.length ≤ N.length := by have := congrArg List.length S.pre; rw [List.length_take] at this; omega
  obtain ⟨h1, tk, rfl, hk⟩ := x.done
  have noA : ∀ b : Addr, b ∉ (xg CX P w K mg base N qual scope f cd A outer s H E).ex := fun b z => absurd (show b ∈ ([] : List Addr) from z) (by simp)
  refine ⟨⟨e0.mod, S.kind, rfl, rfl, Nat.le_refl _, fun y z c h1 h2 => ?_, fun y hy => ?_, fun y c _ h => ?_, fun _ => hd, Around.frames_deeper e0.frames, .inr ⟨rfl, rfl⟩, fun b z => absurd z (noA b), e0.bs, e0.bsz, fun b _ _ => noA b, fun b z => absurd z (noA b), e0.funs, e0.frf⟩,
    rfl, e0.bare, Un.kept hk, ⟨_, x.toInCall.ns, fun i y v h1 h2 h3 => ?_⟩, fun y c h => ⟨_, x.cell y c h⟩, e0.hok.fresh (Nat.le_refl _), fun y c h => ?_, fun p hp => absurd (show p ∈ ([] : List (Addr × Obj)) from hp) (by simp), e0.hok.kept hk, ?_⟩
  · exact name_of_addr x.apart (PySem.mem_of_lookup h1) (PySem.mem_of_lookup h2)
  · have hy : scope.names.lookup y = some .cell ∨ scope.names.lookup y = some .free := hy
    rcases hy with hy | hy
    · exact kq hy
    · exact absurd rfl (S.nofree _ (PySem.mem_of_lookup hy))
  · exact Nat.le_of_lt (x.above y c (PySem.mem_of_lookup h))
  · have hi : i < vs.length := by
      unfold yV at h2
      by_cases hi : i < vs.length
      · exact hi
      · rw [List.getElem?_append_right (by simpa using hi)] at h2
        rw [List.getElem?_replicate] at h2
        split at h2 <;> cases h2
    have ha : vs[i]? = some v := by
      unfold yV at h2
      rw [List.getElem?_append_left (by simpa using hi), List.getElem?_map] at h2
      cases e : vs[i]? with
      | none => rw [e] at h2; cases h2
      | some a => rw [e] at h2; cases h2; rfl
    obtain ⟨u, hu, rv⟩ := r.get ha
    have hp : ps[i]? = some y := by
      rw [← S.pre, List.getElem?_take_of_lt (by omega)]; exact h1
    have ndP : ps.Nodup := by rw [← S.pre]; exact S.nd.sublist (List.take_sublist _ _)
    refine ⟨u, rv, ?_⟩
    rcases S.par y (List.mem_of_getElem? hp) with k | k
    · exact .inl ⟨k, kn ndP hp hu k⟩
    · obtain ⟨c, e⟩ := kq (n := s.heap.objs.size + 1) k
      refine .inr ⟨.inl k, c, e, ?_⟩
      have q := x.cell y c e
      rw [ko ndP hp hu (by show scope.names.lookup y ≠ _; rw [k]; decide)] at q
      exact q
  · exact e0.hok.fresh (Nat.le_of_lt (x.above y c (PySem.mem_of_lookup h)))
  · unfold yV
    show _ = N.length
    rw [List.length_append, List.length_map, List.length_replicate]
    omega
theorem kr {CX : xA} {P : Program} {w : World} {K : PySem.W.Frag} {mg : Str → Option Value} {base : Heap} {k : Nat} {f : Addr} {name qual : Str} {params : Arguments} {body : List Stmt} {scope : Scope} {dV kV doc pm cdv ct oc : Value} {an od : Option Addr}
    {osl : Array (Option Value)} {N ps : List Str} {sp : Sp} (lk : K.lookup f = some ⟨oc, od, .func (PySem.W.fnOf name qual params body scope dV kV doc pm an cdv ct), osl⟩) (hcd : PySem.W.codeIn K cdv qual = true) (S : FnScope N ps scope)
    (len : ∀ vs H Q E, sp vs H Q E → vs.length = ps.length)
    (hbody : ∀ (A : Around) (outer : List Env) (s : Shared) (H : Hp) (vs : List V) (Q : VK) (E : XK), Room k (A.deeper (envOfC qual scope s.heap.objs.size f cdv)) → sp vs H Q E →
      ∃ t, PSs (xg CX P w K mg base N qual scope f cdv A outer s H E) body t ∧ t { nx := fun _ H' => Q .non H', rt := Q } (yV N vs) H) :
    FnOk P w K mg base CX (k + 1) f (PySem.W.fnOf name qual params body scope dV kV doc pm an cdv ct) ps sp := by
  refine ⟨len, fun A outer s H args us vs Q E hr e0 hb r hsp => ?_⟩
  have hl := len _ _ _ _ hsp
  have KX : K.In s.heap := e0.mod.kin.keeps fun b o e => (e0.bs b o e).1
  have lim : s.heap.NoLimit := e0.mod.nolimit.keeps fun b o e => (e0.bs b o e).1
  have hkind : ∀ y ∈ ps.zip us, scope.names.lookup y.1 = some .local ∨ (scope.names.lookup y.1 = some .cell ∧ ((cellsFrom (s.heap.objs.size + 1) scope.names []).lookup y.1).isSome = true) := fun ⟨n, v⟩ hy => by
    rcases S.par n (List.of_mem_zip hy).1 with q | q
    · exact .inl q
    · exact .inr ⟨q, PySem.W.cellsFrom_some _ _ _ (.inl q)⟩
  refine codeAny_call_function hr.depth (KX _ _ lk) rfl S.co S.gen rfl (PySem.W.codeRec_of KX hcd) (hb _ _ _ _ ?_)
  refine wpAny_newFunctionEnv_cells S.kind hkind fun env he s1 x => ?_
  subst he
  refine ⟨lim.keeps x.toInCall.keep, codeAny_func ?_⟩
  obtain ⟨t, ht, hq⟩ := hbody A outer s H vs Q E (hr.deeper _) hsp
  have I : Inv (xg CX P w K mg base N qual scope f cdv A outer s H E) [] (yV N vs) H s1 := zda S hr.hd e0 hl r x
  refine wpAny_mono (ht [] s1 (yV N vs) H _ I hq) (fun fl s' hs => ?_) fun e s' hs => hs
  have fin : ∀ {σ' : St} {H' : Hp} {v : V} {u : Value}, Inv (xg CX P w K mg base N qual scope f cdv A outer s H E) [] σ' H' s' → RelV v u → Q v H' → CE outer P w H s Q u s' :=
    fun {σ' H' v u} J rv q => ⟨v, H', J.os, J.bare, J.base, J.hok, rv, q⟩
  cases fl with
  | ret u =>
    obtain ⟨v, σ', H', J, rv, q⟩ := hs
    exact fin J rv q
  | next =>
    obtain ⟨σ', H', J, q⟩ := hs
    exact fin (v := V.non) (u := Value.none) J rfl q
  | brk =>
    obtain ⟨_, _, _, q⟩ := hs
    exact False.elim q
  | cont =>
    obtain ⟨_, _, _, q⟩ := hs
    exact False.elim q
end L2
namespace L2
open PySem PySem.Spec PyProof.Rows
section
variable {X : Cx} {x : Str} {p pos : Pos} {e : Expr} {es : List Expr} {t : TA} {id T : String} {r : List V → Hp → VK → Prop}
noncomputable def Vp (r : List V → Hp → VK → Prop) (t : TA) : TE := fun σ H Q => t σ H fun vs H1 => r vs H1 Q
theorem Vq (hc : CallR X (.builtin id) r) (hg : Gl X x) (hm : X.mg x = none) (hv : bootBuiltins x = some (.builtin id)) (ha : PA X (e :: es) t) (hn : x ≠ "__name__" := by decide) (hdb : (x == ("__debug__" : Str)) = false := by decide)
    (he : starEach (e :: es) X.env = (false, eval e X.env) :: starEach es X.env := by rfl) (hpl : (backTo pos (starEach es X.env)).any (·.1) = false := by rfl) : PE X (.Call (.Name x p) (e :: es) [] pos) (Vp r t) := by
  intro pins s σ H Q I h
  refine wpAny_Call_Name_kw (jh I hg hm hv ?_ hn hdb)
  exact PyProof.Rows.callWith_builtin1 (zq (ha pos pins s σ H _ I h) fun us s1 ⟨vs, H1, I1, r1, q1⟩ => hc pins s1 σ H1 vs us Q I1 r1 q1) he hpl
theorem zdb (hc : CallR X (.type T) r) (hg : Gl X x) (hm : X.mg x = none) (hv : bootBuiltins x = some (.type T)) (ha : PA X (e :: es) t) (hn : x ≠ "__name__" := by decide) (hdb : (x == ("__debug__" : Str)) = false := by decide)
    (he : starEach (e :: es) X.env = (false, eval e X.env) :: starEach es X.env := by rfl) (hpl : (backTo pos (starEach es X.env)).any (·.1) = false := by rfl) : PE X (.Call (.Name x p) (e :: es) [] pos) (Vp r t) := by
  intro pins s σ H Q I h
  refine wpAny_Call_Name_kw (jh I hg hm hv ?_ hn hdb)
  exact PyProof.Rows.callWith_type1 (zq (ha pos pins s σ H _ I h) fun us s1 ⟨vs, H1, I1, r1, q1⟩ => hc pins s1 σ H1 vs us Q I1 r1 q1) he hpl
end
end L2
namespace HT
open PySem PyProof.Rows
noncomputable def lexLt : List Int → List Int → Bool
  | [], [] => false
  | [], _ :: _ => true
  | _ :: _, [] => false
  | x :: xs, y :: ys => if x = y then lexLt xs ys else decide (x < y)
theorem lexLt_cons (x y : Int) (xs ys : List Int) : lexLt (x :: xs) (y :: ys) = if x = y then lexLt xs ys else decide (x < y) := rfl
theorem ku : lexLt [] [] = false := rfl
theorem kw (y : Int) (ys : List Int) : lexLt [] (y :: ys) = true := rfl
theorem ky (x : Int) (xs : List Int) : lexLt (x :: xs) [] = false := rfl
theorem kz (A : Around) (s : Shared) (a : Int) (t : Tok) (c : Int) (u : Tok) : ∃ e, SeqAt.EqAt A s (.int a t) (.int c u) e ∧ (e = true ↔ a = c) :=
  ⟨(a == c), SeqAt.EqAt.int_int a t c u, by simp⟩
theorem zdc (A : Around) (s : Shared) (a : Int) (t : Tok) (c : Int) (u : Tok) (prog : Program) (w : World) (E : Value → Shared → Prop) (Q : Value → Shared → Prop) (h : Q (.bool (decide (a < c))) s) :
    wpAny (model prog w) A (richCompare .Lt (.int a t) (.int c u)) Q E s :=
  (PyProof.Rows.lt_int h : wpAny (model prog w) A (compareOp .Lt (.int a t) (.int c u)) Q E s)
section
open PySem.SeqAt
open PySem.AutoSeq1 (wpAny_loadPart')
open PySem.MeetsSeq PySem.MeetsSeq2 PySem.MeetsSeq3
theorem zdd (l b : Addr) (items items2 : Array Value) (n n2 : Nat) (dd dd2 : Option Addr) (sl sl2 : Array (Option Value)) (ns ms : List Int) (hi : IntsAre items.toList ns) (hj : IntsAre items2.toList ms) :
    Meets (Builtin.«tuple.__lt__» ⟨[.ref l, .ref b], []⟩)
      (fun _ R s => s.heap.get? l = some { cls := .type "tuple", dict := dd, data := .seq items n, slots := sl } ∧ s.heap.get? b = some { cls := .type "tuple", dict := dd2, data := .seq items2 n2, slots := sl2 } ∧
        R (.ok (.ret (.bool (lexLt ns ms)))) s) :=
  .of_wp fun prog w A R s h => by
    obtain ⟨hp, g, d, tk, os⟩ := s; obtain ⟨hl, hb, h⟩ := h
    have f2 := AutoSeq1.sub_tuple_tuple
    have z1 : items.size = ns.length := by rw [← hi.length]; simp
    have z2 : items2.size = ms.length := by rw [← hj.length]; simp
    wp_walk using wpAny_loadPart' hl, wpAny_loadPart' hb, wpAny_forIn_list _ (fun zX b s' => b.1 = none ∧ s' = ⟨hp, g, d, tk, os⟩ ∧ ∃ (vs ws : List Value) (ns' ms' : List Int), zX = vs.zip ws ∧
      IntsAre vs ns' ∧ IntsAre ws ms' ∧ ns'.length + items2.size = ms'.length + items.size ∧ R (.ok (.ret (.bool (lexLt ns' ms')))) ⟨hp, g, d, tk, os⟩) _
    case turn =>
      rintro ⟨y, x⟩ zX b s' ⟨hb', rfl, vs, ws, ns', ms', hz, hvi, hwi, hlen, hR⟩
      cases hvi with
      | nil => rw [List.zip_nil_left] at hz; cases hz
      | cons a t hvi' =>
        cases hwi with
        | nil => rw [List.zip_nil_right] at hz; cases hz
        | cons c u hwi' =>
          rw [List.zip_cons_cons] at hz
          injection hz with hyx hrest
          injection hyx with hy hx
          subst hy hx
          rw [lexLt_cons] at hR
          simp only [List.length_cons] at hlen
          obtain ⟨e, he, hiff⟩ := kz A.in1 ⟨hp, g, d, tk, os⟩ a t c u
          refine wpAny_bind (he prog w _ _ ?_)
          cases e with
          | true =>
            rw [if_pos (hiff.mp rfl)] at hR
            wp_walk
            exact ⟨rfl, rfl, _, _, _, _, hrest, hvi', hwi', by omega, hR⟩
          | false =>
            rw [if_neg (fun q => absurd (hiff.mpr q) Bool.false_ne_true)] at hR
            have hri := zdc A.in1 ⟨hp, g, d, tk, os⟩ a t c u prog w
            wp_walk using hri
            exact ⟨_, rfl, by simpa using hR⟩
    case fin =>
      rintro ⟨b1, b2⟩ s' ⟨hb', rfl, vs, ws, ns', ms', hz, hvi, hwi, hlen, hR⟩
      simp only at hb'
      subst hb'
      have hv : lexLt ns' ms' = decide (items.size < items2.size) := by
        cases hvi with
        | nil =>
          cases hwi with
          | nil =>
            simp only [List.length_nil] at hlen
            rw [ku]
            exact (decide_eq_false (by omega)).symm
          | cons c u hw =>
            simp only [List.length_nil, List.length_cons] at hlen
            rw [kw]
            exact (decide_eq_true (by omega)).symm
        | cons a t hv =>
          cases hwi with
          | nil =>
            simp only [List.length_nil, List.length_cons] at hlen
            rw [ky]
            exact (decide_eq_false (by omega)).symm
          | cons c u hw =>
            rw [List.zip_cons_cons] at hz
            cases hz
      rw [hv] at hR
      wp_walk
      exact ⟨_, rfl, by simpa [Builtin.Tuple.tupleCompareSizes] using hR⟩
    case h =>
      exact ⟨rfl, rfl, items.toList, items2.toList, ns, ms, rfl, hi, hj, by omega, h⟩
end
section
variable {prog : Program} {w : World} {A : Around} {E : Value → Shared → Prop} {s : Shared}
theorem lt_tupInts {l b : Addr} {items items2 : Array Value} {ns ms : List Int} {Q : Value → Shared → Prop} (hl : IsTup s.heap l items) (hb : IsTup s.heap b items2) (hi : IntsAre items.toList ns) (hj : IntsAre items2.toList ms)
    (hu : A.units < cLine) (h : Q (.bool (lexLt ns ms)) s) : wpAny (model prog w) A (compareOp .Lt (.ref l) (.ref b)) Q E s := by
  obtain ⟨⟨cls, dd, data, sl⟩, ho, hc, n, hd⟩ := id hl
  obtain ⟨⟨cls2, dd2, data2, sl2⟩, ho2, hc2, n2, hd2⟩ := id hb
  simp only at hc hd hc2 hd2
  subst hc hd hc2 hd2
  exact richCompare_meets_room (op := .Lt) ⟨_, ho, rfl⟩ ⟨_, ho2, rfl⟩ PySem.F.slot_tuple_lt PySem.F.entry_tuple_lt (PySem.F.args_tuple_lt_2 _ _) (zdd l b items items2 n n2 dd dd2 sl sl2 ns ms hi hj)
    ⟨ho, ho2, show Value.bool (lexLt ns ms) ≠ Value.notImplemented ∧ Q (.bool (lexLt ns ms)) s from ⟨(fun x => nomatch x), h⟩⟩ hu
noncomputable def sIx (n d : Nat) : Option Int → Nat
  | none => d
  | some v => if v < 0 then (v + (n : Int)).toNat else min v.toNat n
theorem sIx_none (n d : Nat) : sIx n d none = d := rfl
theorem sIx_nat (n d k : Nat) : sIx n d (some (k : Int)) = min k n := by
  show (if (k : Int) < 0 then ((k : Int) + (n : Int)).toNat else min (k : Int).toNat n) = min k n
  rw [if_neg (by omega), Int.toNat_natCast]
end
end HT
namespace L2
open PySem PySem.Spec PyProof.Rows
noncomputable abbrev TO := St → Hp → (Option Int → Hp → Prop) → Prop
noncomputable def PO (X : Cx) (e : Option Expr) (t : TO) : Prop :=
  ∀ (pins : List (Addr × Obj)) (s : Shared) (σ : St) (H : Hp) (Q : Option Int → Hp → Prop), Inv X pins σ H s → t σ H Q →
    wpAny (model X.prog X.w) X.A (evalPart e X.env) (fun u s' => ∃ o H', Inv X pins σ H' s' ∧ IsPart u o ∧ Q o H') X.xe s
noncomputable def zde : TO := fun _ H Q => Q none H
noncomputable def zdf (t : TE) : TO := fun σ H Q => t σ H fun x H1 => ∃ i, x = .int i ∧ Q (some i) H1
theorem jX {ns : List Int} : ∀ {us : List Value}, Vals (ns.map V.int) us → IntsAre us ns := by
  induction ns with
  | nil => intro us r; rw [List.map_nil] at r; cases r; exact .nil
  | cons n ns ih =>
    intro us r
    rw [List.map_cons] at r
    cases r with
    | cons r1 r2 =>
      obtain ⟨t, e⟩ := r1
      subst e
      exact .cons n t (ih r2)
section
variable {X : Cx} {e : Expr} {te : TE} {lo hi : Option Expr} {tl th : TO} {pos p2 : Pos}
theorem Yt : PO X none zde := by
  intro pins s σ H Q I h
  rw [evalPart_none]
  exact wpAny_pure ⟨none, H, I, .none, h⟩
theorem Yu (h : PE X e te) : PO X (some e) (zdf te) := by
  intro pins s σ H Q I hw
  rw [evalPart_some]
  refine zq (h pins s σ H _ I hw) fun u s1 ⟨x, H1, I1, r1, q1⟩ => ?_
  obtain ⟨i, rfl, q⟩ := q1
  obtain ⟨t, rfl⟩ := r1
  exact ⟨some i, H1, I1, .int i t, q⟩
noncomputable def SlR (X : Cx) (r : V → Option Int → Option Int → Hp → VK → Prop) : Prop :=
  ∀ (pins : List (Addr × Obj)) (s : Shared) (σ : St) (H : Hp) (x : V) (v vl vu : Value) (lo hi : Option Int) (sl : Addr) (Q : VK), Inv X pins σ H s → RelV x v → s.heap.IsSliceOf sl vl vu .none → IsPart vl lo → IsPart vu hi → r x lo hi H Q →
    ∃ T id, typeLookup (.type T) "__getitem__" = pure (some (.builtin id)) ∧ s.TypeIs v T ∧ wpAny (model X.prog X.w) X.A (getItem v (.ref sl)) (EP X pins σ Q) X.xe s
theorem SlR.or {r r' : V → Option Int → Option Int → Hp → VK → Prop} (h : SlR X r) (h' : SlR X r') : SlR X (fun x lo hi H Q => r x lo hi H Q ∨ r' x lo hi H Q) := by
  intro pins s σ H x v vl vu lo hi sl Q I rx hs pl pu q
  rcases q with q | q
  · exact h pins s σ H x v vl vu lo hi sl Q I rx hs pl pu q
  · exact h' pins s σ H x v vl vu lo hi sl Q I rx hs pl pu q
noncomputable def zdg (r : V → Option Int → Option Int → Hp → VK → Prop) (te : TE) (tl th : TO) : TE := fun σ H Q => te σ H fun x H1 => tl σ H1 fun l H2 => th σ H2 fun u H3 => r x l u H3 Q
theorem Yv {r : V → Option Int → Option Int → Hp → VK → Prop} (hr : SlR X r) (he : PE X e te) (hl : PO X lo tl) (hu : PO X hi th) : PE X (.Subscript e (.Slice lo hi none p2) pos) (zdg r te tl th) := by
  intro pins s σ H Q I h
  refine Subscript_ (zq (he pins s σ H _ I h) fun v s1 ⟨x, H1, I1, r1, q1⟩ => ?_)
  refine wpAny_Slice (zq (hl pins s1 σ H1 _ I1 q1) fun vl s2 ⟨l, H2, I2, pl, q2⟩ => zq (hu pins s2 σ H2 _ I2 q2) fun vu s3 ⟨u, H3, I3, pu, q3⟩ => ?_)
  rw [evalPart_none]
  refine wpAny_pure ?_
  have I4 : Inv X pins σ H3 { s3 with heap := s3.heap.push { cls := .type "slice", data := .fields #[vl, vu, .none] } } := I3.kept (t' := s3.toks) fun b ob q => Heap.get?_push_of_some _ q
  obtain ⟨T, id, hT, ht, hg⟩ := hr pins { s3 with heap := s3.heap.push { cls := .type "slice", data := .fields #[vl, vu, .none] } } σ H3 x v vl vu l u s3.heap.objs.size Q I4 r1 (Heap.IsSliceOf.new ..) pl pu q3
  show wpAny (model X.prog X.w) X.A (subscriptTail e (.Slice lo hi none p2) v (.ref s3.heap.objs.size)) (EP X pins σ Q) X.xe { s3 with heap := s3.heap.push { cls := .type "slice", data := .fields #[vl, vu, .none] } }
  exact tail_any (ops := [.ref s3.heap.objs.size, v]) ht hT hg (by with_unfolding_all rfl)
noncomputable def vk (xs : List V) (lo hi : Option Int) : List V := (xs.drop (HT.sIx xs.length 0 lo)).take (HT.sIx xs.length xs.length hi - HT.sIx xs.length 0 lo)
theorem zdh (xs : List V) (lo hi : Option Int) : (vk xs lo hi).length ≤ xs.length := by
  unfold vk
  rw [List.length_take, List.length_drop]
  omega
noncomputable def zdi (K : PySem.W.Frag) : R2 := fun x y H Q => ∃ a b ns ms, x = .ref a ∧ y = .ref b ∧ SqT K H a (ns.map V.int) ∧ SqT K H b (ms.map V.int) ∧ Q (.bl (HT.lexLt ns ms)) H
theorem zdj (hu : X.A.units < cLine) : OpR X (compareOp .Lt) (zdi X.K) := by
  intro pins s σ H x y v u Q I rx ry h
  obtain ⟨a, b, ns, ms, rfl, rfl, ha, hb, q⟩ := h
  cases rx
  cases ry
  obtain ⟨its, r1, p1, _⟩ := I.tuple ha
  obtain ⟨its2, r2, p2, _⟩ := I.tuple hb
  have i1 : IntsAre its.toArray.toList ns := jX r1
  have i2 : IntsAre its2.toArray.toList ms := jX r2
  exact HT.lt_tupInts p1 p2 i1 i2 hu ⟨.bl (HT.lexLt ns ms), H, I, rfl, q⟩
end
end L2
namespace L2
open PySem PySem.Spec PyProof.Rows
noncomputable def ixN (n : Nat) (i : Int) : Option Nat := if 0 ≤ i then (if i < n then some i.toNat else none) else if -(n : Int) ≤ i then some (i + n).toNat else none
noncomputable def atI {α : Type} (xs : List α) (i : Int) : Option α := (ixN xs.length i).bind fun j => xs[j]?
theorem zdk {n : Nat} {i : Int} {j : Nat} (h : ixN n i = some j) : seqIndex? i n = some j ∧ j < n ∧ -(n : Int) ≤ i ∧ i < n := by
  unfold ixN at h
  by_cases h0 : 0 ≤ i
  · rw [if_pos h0] at h
    by_cases h1 : i < n
    · rw [if_pos h1] at h
      have e : i.toNat = j := Option.some.inj h
      exact ⟨by rw [seqIndex_of h0 h1, e], by omega, by omega, h1⟩
    · rw [if_neg h1] at h; cases h
  · rw [if_neg h0] at h
    by_cases h1 : -(n : Int) ≤ i
    · rw [if_pos h1] at h
      have e : (i + n).toNat = j := Option.some.inj h
      exact ⟨by rw [seqIndex_neg (by omega) h1, e], by omega, h1, by omega⟩
    · rw [if_neg h1] at h; cases h
theorem Vr {α : Type} {xs : List α} {i : Int} {v : α} (h : atI xs i = some v) : ∃ j, seqIndex? i xs.length = some j ∧ xs[j]? = some v ∧ j < xs.length ∧ -(xs.length : Int) ≤ i ∧ i < xs.length := by
  unfold atI at h
  cases e : ixN xs.length i with
  | none => rw [e] at h; cases h
  | some j =>
    rw [e] at h
    obtain ⟨h1, h2, h3, h4⟩ := zdk e
    exact ⟨j, h1, h, h2, h3, h4⟩
theorem atI_nat {α : Type} {xs : List α} {j : Nat} {v : α} (h : xs[j]? = some v) : atI xs (j : Int) = some v := by
  have hj : j < xs.length := (List.getElem?_eq_some_iff.mp h).1
  have e : ixN xs.length (j : Int) = some j := by
    unfold ixN
    rw [if_pos (by omega), if_pos (by omega)]; simp
  unfold atI; rw [e]; exact h
noncomputable def Vs (b : Expr) : Prop := ∀ o i, subscripted b false o i = operate [o, i] (getItem o i)
noncomputable def IxR (X : Cx) (r : R2) : Prop :=
  ∀ (value slice : Expr) (pins : List (Addr × Obj)) (s : Shared) (σ : St) (H : Hp) (x y : V) (v u : Value) (Q : VK), Inv X pins σ H s → RelV x v → RelV y u → r x y H Q →
    subscripted slice false v u = operate [v, u] (getItem v u) → wpAny (model X.prog X.w) X.A (subscriptTail value slice v u) (EP X pins σ Q) X.xe s
noncomputable def MtR (X : Cx) (id : String) (r : V → List V → Hp → VK → Prop) : Prop :=
  ∀ (pins : List (Addr × Obj)) (s : Shared) (σ : St) (H : Hp) (x : V) (xs : List V) (v : Value) (us : List Value) (Q : VK), Inv X pins σ H s → RelV x v → Vals xs us → r x xs H Q →
    wpAny (model X.prog X.w) X.A (call (.builtin id) (v :: us)) (EP X pins σ Q) X.xe s
section
variable {X : Cx} {a b : Expr} {ta tb : TE} {pos : Pos}
theorem IxR.or {r r' : R2} (h : IxR X r) (h' : IxR X r') : IxR X (fun x y H Q => r x y H Q ∨ r' x y H Q) := by
  intro value slice pins s σ H x y v u Q I rx ry q hs
  rcases q with q | q
  · exact h value slice pins s σ H x y v u Q I rx ry q hs
  · exact h' value slice pins s σ H x y v u Q I rx ry q hs
theorem MtR.or {id : String} {r r' : V → List V → Hp → VK → Prop} (h : MtR X id r) (h' : MtR X id r') : MtR X id (fun x xs H Q => r x xs H Q ∨ r' x xs H Q) := by
  intro pins s σ H x xs v us Q I rx rs q
  rcases q with q | q
  · exact h pins s σ H x xs v us Q I rx rs q
  · exact h' pins s σ H x xs v us Q I rx rs q
theorem kA {r : R2} (hr : IxR X r) (ha : PE X a ta) (hb : PE X b tb) (hs : Vs b) : PE X (.Subscript a b pos) (jW r ta tb) := by
  intro pins s σ H Q I h
  exact Subscript_ (Vm ha hb I h fun v u s2 x y H2 I2 rx ry q => hr a b pins s2 σ H2 x y v u Q I2 rx ry q (hs _ _))
noncomputable def zdl (K : PySem.W.Frag) : R2 := fun x y H Q => ∃ p xs i v, x = .ref p ∧ y = .int i ∧ SqL K H p xs ∧ atI xs i = some v ∧ Q v H
noncomputable def zdm (K : PySem.W.Frag) : R2 := fun x y H Q => ∃ p xs i v, x = .ref p ∧ y = .int i ∧ SqT K H p xs ∧ atI xs i = some v ∧ Q v H
noncomputable def zdn : R2 := fun x y H Q => ∃ z i c, x = .str z ∧ y = .int i ∧ z.length ≤ sizeLine ∧ atI z.cps.toList i = some c ∧ Q (.str ⟨#[c]⟩) H
theorem zdo : IxR X (zdl X.K) := by
  intro value slice pins s σ H x y v u Q I rx ry h hs
  obtain ⟨p, xs, i, z, rfl, rfl, hq, he, q⟩ := h
  cases rx
  obtain ⟨t, rfl⟩ := ry
  obtain ⟨its, r, pl, hz⟩ := I.list hq
  obtain ⟨j, h1, h2, h3, h4, h5⟩ := Vr he
  obtain ⟨w, ew, rw'⟩ := r.get h2
  have hl := r.length
  have hn := ji
  have fin : EP X pins σ Q w s := ⟨z, H, I, rw', q⟩
  by_cases h0 : 0 ≤ i
  · have hj : i.toNat = j := by
      rw [seqIndex_of h0 h5] at h1
      exact Option.some.inj h1
    exact item_listR pl.isList h0 (by omega) (by rw [hj]; simpa using ew) fin hs
  · have hj : (i + (its.toArray.size : Int)).toNat = j := by
      rw [seqIndex_neg (by omega) h4] at h1
      rw [List.size_toArray, ← hl]
      exact Option.some.inj h1
    exact subscriptTail_builtinR (x := w) pl.isList.typeIs slot_list_getitem.lookup
      (wpAny_getItem_list_neg (Q := fun r s' => r = w ∧ EP X pins σ Q r s') pl.isList (by omega) (by rw [List.size_toArray] <;> omega) (by omega) (by rw [hj]; simpa using ew) ⟨rfl, fin⟩) hs
theorem zdp : IxR X (zdm X.K) := by
  intro value slice pins s σ H x y v u Q I rx ry h hs
  obtain ⟨p, xs, i, z, rfl, rfl, hq, he, q⟩ := h
  cases rx
  obtain ⟨t, rfl⟩ := ry
  obtain ⟨its, r, pl, hz⟩ := I.tuple hq
  obtain ⟨j, h1, h2, h3, h4, h5⟩ := Vr he
  obtain ⟨w, ew, rw'⟩ := r.get h2
  have hl := r.length
  have hn := ji
  have fin : EP X pins σ Q w s := ⟨z, H, I, rw', q⟩
  exact subscriptTail_builtinR (x := w) pl.typeIs slot_tuple_getitem.lookup
    (getItem_tuple (j := j) (Q := fun r s' => r = w ∧ EP X pins σ Q r s') pl (by omega) (by omega) (by rw [List.size_toArray, ← hl]; exact h1) (by simpa using ew) ⟨rfl, fin⟩) hs
theorem zdq : IxR X zdn := by
  intro value slice pins s σ H x y v u Q I rx ry h hs
  obtain ⟨z, i, c, rfl, rfl, hz, he, q⟩ := h
  obtain ⟨t, rfl⟩ := rx
  obtain ⟨t', rfl⟩ := ry
  obtain ⟨j, h1, h2, h3, h4, h5⟩ := Vr he
  have hl : z.cps.toList.length = z.length := by simp [Str.length]
  rw [hl] at h1 h4 h5
  have hn := ji
  exact tail_any (typeIs_str s z t) slot_str_getitem.lookup (getItem_str (c := c) (by
    have e1 : decide (i < -(2 ^ 63 : Int)) = false := decide_eq_false (by omega)
    have e2 : decide (i ≥ 2 ^ 63) = false := decide_eq_false (by omega)
    rw [e1, e2, Bool.or_false]) (by rw [h1]; simpa using h2) ⟨.str ⟨#[c]⟩, H, I.tok _, ⟨_, rfl⟩, q⟩) hs
theorem Inv.lst {pins : List (Addr × Obj)} {σ : St} {H : Hp} {s : Shared} {p : Addr} {xs : List V} (I : Inv X pins σ H s) (h : H p = some (.lst xs)) :
    ∃ (its : List Value) (n : Nat), Vals xs its ∧ s.heap.get? p = some { cls := .type "list", data := .seq its.toArray n } ∧ xs.length ≤ sizeLine := by
  obtain ⟨z, its, n, r, e⟩ := I.hok p _ h
  exact ⟨its, n, r, e, z⟩
theorem zdr (lo hi : Option Int) (n : Nat) : (sliceBounds lo hi none n).1 = ((HT.sIx n 0 lo : Nat) : Int) ∧ (sliceBounds lo hi none n).2.1 = ((HT.sIx n n hi : Nat) : Int) ∧ (sliceBounds lo hi none n).2.2 = 1 := by
  refine ⟨?_, ?_, rfl⟩
  · cases lo with
    | none => simp [sliceBounds, HT.sIx]
    | some i =>
      simp only [sliceBounds, HT.sIx, Option.getD_none, show (1 : Int) > 0 by decide, if_true]
      by_cases h : i < 0
      · simp only [h, if_true] <;> omega
      · simp only [h, if_false] <;> omega
  · cases hi with
    | none => simp [sliceBounds, HT.sIx]
    | some i =>
      simp only [sliceBounds, HT.sIx, Option.getD_none, show (1 : Int) > 0 by decide, if_true]
      by_cases h : i < 0
      · simp only [h, if_true] <;> omega
      · simp only [h, if_false] <;> omega
theorem zds (its : List Value) (lo hi : Option Int) : slicePick its.toArray lo hi none = ((its.drop (HT.sIx its.length 0 lo)).take (HT.sIx its.length its.length hi - HT.sIx its.length 0 lo)).toArray := by
  obtain ⟨h1, h2, h3⟩ := zdr lo hi its.toArray.size
  unfold slicePick
  rw [h1, h2, h3]
  simp only [sliceRange_one, pick_run, List.size_toArray] <;> rfl
noncomputable def zdt (K : PySem.W.Frag) : V → Option Int → Option Int → Hp → VK → Prop := fun x lo hi H Q => ∃ a xs, x = .ref a ∧ SqL K H a xs ∧ ∀ p, H p = none → Q (.ref p) (zJ H p (.lst (vk xs lo hi)))
theorem kB : SlR X (zdt X.K) := by
  intro pins s σ H x v vl vu lo hi sl Q I rx hs pl pu h
  obtain ⟨a, xs, rfl, hx, q⟩ := h
  cases rx
  obtain ⟨its, r, ht, hz⟩ := I.list hx
  have hlen := r.length
  refine ⟨"list", _, slot_list_getitem.lookup, ht.isList.typeIs, ?_⟩
  refine wpAny_getItem_list_slice ht.isList hs pl pu .none (by simp) ?_ (by rw [List.size_toArray] <;> omega)
  rw [zds, ← hlen]
  refine ⟨.ref s.heap.objs.size, _, I.laid (t' := s.toks) (o := .lst (vk xs lo hi)) (fun b ob q => Heap.get?_push_of_some _ q) (Nat.le_refl _) ?_, rfl, q _ (I.hok.fresh (Nat.le_refl _))⟩
  exact ⟨Nat.le_trans (zdh xs lo hi) hz, _, 0, (r.drop (HT.sIx xs.length 0 lo)).take (HT.sIx xs.length xs.length hi - HT.sIx xs.length 0 lo), Heap.get?_push_size _ rfl⟩
theorem kC : CallR X (.builtin "len") (fun xs H Q => ∃ p ys, xs = [.ref p] ∧ (SqL X.K H p ys ∨ SqT X.K H p ys) ∧ Q (.int ys.length) H) := by
  intro pins s σ H xs us Q I r h
  obtain ⟨p, ys, rfl, hq, q⟩ := h
  obtain ⟨u, rfl, rx⟩ := wo r
  cases rx
  have hn := ji
  rcases hq with hq | hq
  · obtain ⟨its, r', pl, hz⟩ := I.list hq
    have hlen := r'.length
    exact Calls.call_len_list pl.isList (by simp only [List.size_toArray] <;> omega) ⟨.int ys.length, H, I.tok _, ⟨s.toks + 1, by rw [List.size_toArray, hlen]⟩, q⟩
  · obtain ⟨its, r', pl, hz⟩ := I.tuple hq
    have hlen := r'.length
    exact len_tuple pl (by simp only [List.size_toArray] <;> omega) ⟨.int ys.length, H, I.tok _, ⟨s.toks + 1, by rw [List.size_toArray, hlen]⟩, q⟩
theorem zdu : CallR X (.builtin "len") (fun xs H Q => ∃ z, xs = [.str z] ∧ z.length ≤ sizeLine ∧ Q (.int z.length) H) := by
  intro pins s σ H xs us Q I r h
  obtain ⟨z, rfl, hz, q⟩ := h
  obtain ⟨u, rfl, t, rfl⟩ := wo r
  have hn := ji
  exact len_str (by omega) ⟨.int z.length, H, I.tok _, ⟨_, rfl⟩, q⟩
theorem CallR.or {f : Value} {r r' : List V → Hp → VK → Prop} (h : CallR X f r) (h' : CallR X f r') : CallR X f (fun xs H Q => r xs H Q ∨ r' xs H Q) := by
  intro pins s σ H xs us Q I rs q
  rcases q with q | q
  · exact h pins s σ H xs us Q I rs q
  · exact h' pins s σ H xs us Q I rs q
theorem kD : CallR X (.type "tuple") (fun xs H Q => ∃ p ys, xs = [.ref p] ∧ ((SqL X.K H p ys ∧ ∀ l, H l = none → Q (.ref l) (zJ H l (.tup ys))) ∨ (SqT X.K H p ys ∧ Q (.ref p) H))) := by
  intro pins s σ H xs us Q I r h
  obtain ⟨p, ys, rfl, h⟩ := h
  obtain ⟨u, rfl, rx⟩ := wo r
  cases rx
  rcases h with ⟨hq, q⟩ | ⟨hq, q⟩
  · obtain ⟨its, r', pl, hz⟩ := I.list hq
    have hlen := r'.length
    refine call_tuple_list pl.isList (fun h' kp => ?_) (by simp only [List.size_toArray] <;> omega)
    have I1 : Inv X pins σ H { s with heap := h' } := I.kept (t' := s.toks) kp
    have I2 : Inv X pins σ (zJ H h'.objs.size (.tup ys)) { s with heap := h'.push { cls := .type "tuple", data := .seq its.toArray } } :=
      I1.laid (t' := s.toks) (fun b o e => Heap.get?_push_of_some _ e) (Nat.le_refl _) (show ObjOk X.prog X.w _ _ _ (.tup ys) from ⟨hz, its, r', IsTup.new _ _⟩)
    exact ⟨.ref h'.objs.size, _, I2, rfl, q _ (I1.hok.fresh (Nat.le_refl _))⟩
  · obtain ⟨its, r', pl, hz⟩ := I.tuple hq
    exact call_tuple_same pl ⟨.ref p, H, I, rfl, q⟩
noncomputable def kE (K : PySem.W.Frag) (T : String) (x : V) (H : Hp) : Prop := match x with
  | .str _ => T = "str"
  | .int _ => T = "int"
  | .ref p => (T = "list" ∧ ∃ xs, SqL K H p xs) ∨ (T = "tuple" ∧ ∃ o, K.lookup p = some o ∧ o.cls = .type "tuple" ∧ o.dict = none) ∨
      (T = "dict" ∧ ((∃ kvs, H p = some (.dK kvs)) ∨ ∃ kvs, H p = some (.dT kvs))) ∨ (T = "set" ∧ ∃ S n, H p = some (.set S n))
  | _ => False
theorem zdv {pins : List (Addr × Obj)} {σ : St} {H : Hp} {s : Shared} {T : String} {x : V} {v : Value} (I : Inv X pins σ H s) (r : RelV x v) (ty : kE X.K T x H) :
    s.TypeIs v T ∧ ∀ a, v = .ref a → ∃ ob, s.heap.get? a = some ob ∧ ob.dict = none := by
  cases x with
  | str z =>
    obtain ⟨t, rfl⟩ := r
    cases (show T = "str" from ty)
    exact ⟨typeIs_str s z t, fun _ e => nomatch e⟩
  | int i =>
    obtain ⟨t, rfl⟩ := r
    cases (show T = "int" from ty)
    exact ⟨typeIs_int s i t, fun _ e => nomatch e⟩
  | ref p =>
    cases r
    rcases ty with ⟨rfl, xs, hq⟩ | ⟨rfl, o, hk, hc, hd⟩ | ⟨rfl, hk⟩ | ⟨rfl, S, n, hk⟩
    · obtain ⟨its, _, pl, _⟩ := I.list hq
      refine ⟨pl.isList.typeIs, fun a e => ?_⟩
      cases e
      obtain ⟨o, n, e, c, hd, _⟩ := pl
      exact ⟨o, e, hd⟩
    · refine ⟨⟨o, I.kIn p o hk, hc⟩, fun a e => ?_⟩
      cases e
      exact ⟨o, I.kIn _ o hk, hd⟩
    · have z : ∃ o, s.heap.get? p = some o ∧ o.ExactDict := by
        rcases hk with ⟨kvs, hk⟩ | ⟨kvs, hk⟩
        · obtain ⟨_, _, _, _, o, _, _, e, ex, _⟩ := I.hok p _ hk
          exact ⟨o, e, ex⟩
        · obtain ⟨_, _, _, _, o, _, _, e, ex, _⟩ := I.hok p _ hk
          exact ⟨o, e, ex⟩
      obtain ⟨o, e, ex⟩ := z
      refine ⟨⟨o, e, ex.1⟩, fun a e2 => ?_⟩
      cases e2
      exact ⟨o, e, ex.2.1⟩
    · obtain ⟨o, _, _, _, e, ex, _⟩ := I.hok p _ hk
      refine ⟨⟨o, e, ex.1⟩, fun a e2 => ?_⟩
      cases e2
      exact ⟨o, e, ex.2.1⟩
  | _ => exact False.elim ty
noncomputable def zdw (K : PySem.W.Frag) (T : String) (r : V → List V → Hp → VK → Prop) (to : TE) (t : TA) : TE := fun σ H Q => to σ H fun x H1 => kE K T x H1 ∧ t σ H1 fun xs H2 => r x xs H2 Q
variable {o e : Expr} {es : List Expr} {to : TE} {t : TA} {name : Str} {apos cpos : Pos} {T id : String} {r : V → List V → Hp → VK → Prop}
theorem Yw (pa : PlainAttrs T) (slot : Slot T name id) (hty : typeOf (.builtin id) = pure (.type "method_descriptor")) (hm : MtR X id r) (ho : PE X o to) (ha : PA X (e :: es) t)
    (hbase : attributeBase o name X.env (eval o X.env) = eval o X.env := by rfl)
    (hfew : ((backTo cpos (starEach (e :: es) X.env)).all (fun x => !x.1) && (backToKw cpos (keywordEach [] X.env)).all (fun x => x.1.isSome)
      && decide ((e :: es).length + ([] : List Keyword).length + (if ([] : List Keyword).isEmpty then 0 else 1) < 30)) = true := by rfl)
    (hline : (apos.endLine == cpos.line) = true := by rfl) (hs : starEach (e :: es) X.env = (false, eval e X.env) :: starEach es X.env := by rfl) (hplain : (backTo cpos (starEach es X.env)).any (·.1) = false := by rfl) :
    PE X (.Call (.Attribute o name apos) (e :: es) [] cpos) (zdw X.K T r to t) := by
  intro pins s σ H Q I h
  refine wpAny_Call_method_late hbase hfew hline rfl (zq (ho pins s σ H _ I h) fun v s1 ⟨x, H1, I1, r1, ty, q1⟩ => ?_)
  obtain ⟨h1, h2⟩ := zdv I1 r1 ty
  refine ⟨T, id, pa, slot, hty, h1, h2, ?_⟩
  have hA := ha cpos pins s1 σ H1 _ I1 q1
  rw [hs] at hA ⊢
  refine Calls.callWith_builtin (by show (false || (backTo cpos (starEach es X.env)).any (·.1)) = false; rw [hplain] <;> rfl) (Calls.evalArgs_plain ?_)
  exact zq hA fun us s2 ⟨vs, H2, I2, r2, q2⟩ => hm pins s2 σ H2 x vs v us Q I2 r1 r2 q2
end
end L2
namespace L2
open PySem PySem.Spec PyProof.Rows
noncomputable def zdx (X : Cx) (id : String) (r : V → List V → Hp → VK → Prop) : Prop :=
  ∀ (pins : List (Addr × Obj)) (s : Shared) (σ : St) (H : Hp) (x : V) (xs : List V) (v : Value) (us : List Value) (Q : VK), Inv X pins σ H s → RelV x v → Vals xs us → r x xs H Q →
    wpAny (model X.prog X.w) X.A (call (.builtin id) (v :: us)) (EP X pins σ Q) X.xe s
theorem Vals.one : ∀ {x : V} {us : List Value}, Vals [x] us → ∃ u, us = [u] ∧ RelV x u
  | _, _, .cons r .nil => ⟨_, rfl, r⟩
theorem Vals.two : ∀ {x y : V} {us : List Value}, Vals [x, y] us → ∃ u v, us = [u, v] ∧ RelV x u ∧ RelV y v
  | _, _, _, .cons r (.cons q .nil) => ⟨_, _, rfl, r, q⟩
theorem Vals.zero : ∀ {us : List Value}, Vals [] us → us = []
  | _, .nil => rfl
theorem Vals.reverse {xs : List V} {us : List Value} (h : Vals xs us) : Vals xs.reverse us.reverse := by
  induction h with
  | nil => exact .nil
  | cons r t ih => rw [List.reverse_cons, List.reverse_cons]; exact Vals.append ih (.cons r .nil)
theorem Vals.rep {xs : List V} {us : List Value} (h : Vals xs us) : ∀ k : Nat, Vals (List.replicate k xs).flatten (List.replicate k us).flatten
  | 0 => .nil
  | k + 1 => by
    rw [List.replicate_succ, List.replicate_succ, List.flatten_cons, List.flatten_cons]
    exact Vals.append h (Vals.rep h k)
section
variable {X : Cx} {pins : List (Addr × Obj)} {σ : St} {H : Hp} {s : Shared} {l b : Addr} {xs ys zs : List V}
theorem Inv.lset {its its' : List Value} {n : Nat} {f : Array Value → Array Value} {t' : Nat} (I : Inv X pins σ H s) (hH : H l = some (.lst xs))
    (e : s.heap.get? l = some { cls := .type "list", data := .seq its.toArray n }) (hf : f its.toArray = its'.toArray) (hv : Vals ys its') (hz : ys.length ≤ sizeLine) :
    Inv X pins σ (zJ H l (.lst ys)) { s with heap := s.heap.update l (Obj.mapSeq f), toks := t' } := by
  have q := PySem.IsL.update e f
  rw [hf] at q
  refine I.write (x := l) (e := l) (by rw [hH]; exact trivial) (.inl rfl) (fun b' u hb hu => (Heap.get?_update_other s.heap (Obj.mapSeq f) (Ne.symm hb)).trans hu) ⟨_, q⟩ ?_
  exact ⟨hz, its', _, hv, q⟩
theorem Inv.lnew {its : List Value} {t' : Nat} (I : Inv X pins σ H s) (hv : Vals ys its) (hz : ys.length ≤ sizeLine) :
    Inv X pins σ (zJ H s.heap.objs.size (.lst ys)) { s with heap := s.heap.push { cls := .type "list", data := .seq its.toArray }, toks := t' } :=
  I.laid (fun _ _ q => Heap.get?_push_of_some _ q) (Nat.le_refl _) ⟨hz, its, 0, hv, Heap.get?_push_size _ rfl⟩
theorem Inv.fresh (I : Inv X pins σ H s) : H s.heap.objs.size = none := I.hok.fresh (Nat.le_refl _)
theorem Inv.lstM (I : Inv X pins σ H s) (hH : H l = some (.lst xs)) : xs.length ≤ sizeLine ∧ ∃ (its : List Value) (n : Nat), Vals xs its ∧ xs.length = its.length ∧ s.heap.get? l = some { cls := .type "list", data := .seq its.toArray n } := by
  obtain ⟨z, its, n, r, e⟩ := I.hok l _ hH
  exact ⟨z, its, n, r, r.length, e⟩
end
section
variable {X : Cx}
noncomputable def zdy : V → List V → Hp → VK → Prop := fun x vs H Q => ∃ l xs y, x = .ref l ∧ vs = [y] ∧ H l = some (.lst xs) ∧ xs.length < sizeLine ∧ Q .non (zJ H l (.lst (xs ++ [y])))
theorem kF : zdx X "list.append" zdy := by
  intro pins s σ H x vs v us Q I rx rv h
  obtain ⟨l, xs, y, rfl, rfl, hH, hz, q⟩ := h
  cases rx
  obtain ⟨u, rfl, ru⟩ := rv.one
  obtain ⟨z, its, n, r, hl, e⟩ := I.lstM hH
  refine call_meets F.slot_list_append ⟨_, e, rfl⟩ F.entry_list_append (F.args_list_append_2 _ _) (PySem.list_append l its.toArray n u (by rw [List.size_toArray]; omega)) ⟨e, ?_⟩
  refine ⟨.non, _, I.lset (its' := its ++ [u]) hH e (by simp) (r.append (.cons ru .nil)) ?_, rfl, q⟩
  rw [List.length_append, List.length_singleton]
  omega
end
end L2
namespace L2
open PySem PySem.Spec PyProof.Rows
section
variable {κ : Type} [DecidableEq κ]
noncomputable def yz (kvs : List (κ × V)) (k : κ) : Option V := (kvs.find? fun kv => decide (kv.1 = k)).map (·.2)
noncomputable def vm (kvs : List (κ × V)) (k : κ) (v : V) : List (κ × V) :=
  if (kvs.any fun kv => decide (kv.1 = k)) = true then kvs.map (fun kv => if kv.1 = k then (kv.1, v) else kv) else kvs ++ [(k, v)]
noncomputable def kG (kvs : List (κ × V)) (k : κ) : List (κ × V) := kvs.filter fun kv => decide (kv.1 ≠ k)
theorem jY {p : κ × V} {r : List (κ × V)} {k : κ} (e : p.1 = k) : yz (p :: r) k = some p.2 := by simp [yz, List.find?_cons, e]
theorem jZ {p : κ × V} {r : List (κ × V)} {k : κ} (e : ¬ p.1 = k) : yz (p :: r) k = yz r k := by simp [yz, List.find?_cons, e]
theorem kH (k : κ) : ∀ kvs : List (κ × V), (kvs.any fun kv => decide (kv.1 = k)) = (yz kvs k).isSome
  | [] => rfl
  | p :: r => by
    rw [List.any_cons]
    by_cases e : p.1 = k
    · simp only [jY e, decide_eq_true e, Bool.true_or, Option.isSome_some]
    · rw [jZ e, decide_eq_false e, Bool.false_or]; exact kH k r
theorem RelO.isSome_eq {o : Option V} {u : Option Value} (r : RelO o u) : o.isSome = u.isSome := by
  cases o with
  | none => cases u with
    | none => rfl
    | some _ => exact (show False from r).elim
  | some _ => cases u with
    | none => exact (show False from r).elim
    | some _ => rfl
theorem RelO.getD {o : Option V} {u : Option Value} {d : V} {d' : Value} (r : RelO o u) (rd : RelV d d') : RelV (o.getD d) (u.getD d') := by
  cases o with
  | none => cases u with
    | none => exact rd
    | some _ => exact (show False from r).elim
  | some _ => cases u with
    | none => exact (show False from r).elim
    | some _ => exact r
theorem KV.val {kvs : List (κ × V)} {vs : List (κ × Value)} (r : KV kvs vs) (k : κ) : RelO (yz kvs k) (valueAt vs k) := by
  unfold KV at r
  induction r with
  | nil => exact True.intro
  | @cons p q ps qs h t ih =>
    obtain ⟨h1, h2⟩ := h
    by_cases e : p.1 = k
    · have e' : q.1 = k := h1.symm.trans e
      have b : valueAt (q :: qs) k = some q.2 := by simp [valueAt, List.find?_cons, e']
      rw [jY e, b]; exact h2
    · have e' : ¬ q.1 = k := fun z => e (h1.trans z)
      have b : valueAt (q :: qs) k = valueAt qs k := by simp [valueAt, List.find?_cons, e']
      rw [jZ e, b]; exact ih
theorem KV.any {kvs : List (κ × V)} {vs : List (κ × Value)} (r : KV kvs vs) (k : κ) : (kvs.any fun kv => decide (kv.1 = k)) = vs.any fun kv => decide (kv.1 = k) := by
  unfold KV at r
  induction r with
  | nil => rfl
  | cons h t ih => rw [List.any_cons, List.any_cons, ih, h.1]
theorem KV.repl {kvs : List (κ × V)} {vs : List (κ × Value)} (r : KV kvs vs) (k : κ) {y : V} {u : Value} (ry : RelV y u) :
    KV (kvs.map fun kv => if kv.1 = k then (kv.1, y) else kv) (vs.map fun kv => if kv.1 = k then (kv.1, u) else kv) := by
  unfold KV at r ⊢
  induction r with
  | nil => exact .nil
  | @cons p q ps qs h t ih =>
    rw [List.map_cons, List.map_cons]
    refine .cons ?_ ih
    obtain ⟨h1, h2⟩ := h
    by_cases e : p.1 = k
    · rw [if_pos e, if_pos (h1.symm.trans e)]; exact ⟨h1, ry⟩
    · rw [if_neg e, if_neg (fun z => e (h1.trans z))]; exact ⟨h1, h2⟩
theorem KV.put {kvs : List (κ × V)} {vs : List (κ × Value)} (r : KV kvs vs) (k : κ) {y : V} {u : Value} (ry : RelV y u) : KV (vm kvs k y) (stored vs k u) := by
  unfold vm stored
  rw [r.any k]
  by_cases e : (vs.any fun kv => decide (kv.1 = k)) = true
  · rw [if_pos e, if_pos e]; exact r.repl k ry
  · rw [if_neg e, if_neg e]; exact Paired.snoc r ⟨rfl, ry⟩
theorem KV.drop {kvs : List (κ × V)} {vs : List (κ × Value)} (r : KV kvs vs) (k : κ) : KV (kG kvs k) (without vs k) := by
  unfold KV at r ⊢
  unfold kG without
  induction r with
  | nil => exact .nil
  | @cons p q ps qs h t ih =>
    obtain ⟨h1, h2⟩ := h
    rw [List.filter_cons, List.filter_cons]
    by_cases e : p.1 = k
    · have a : ¬ decide (p.1 ≠ k) = true := by simp [e]
      have b : ¬ decide (q.1 ≠ k) = true := by simp [h1.symm.trans e]
      rw [if_neg a, if_neg b]; exact ih
    · have e' : ¬ q.1 = k := fun z => e (h1.trans z)
      have a : decide (p.1 ≠ k) = true := by simp [e]
      have b : decide (q.1 ≠ k) = true := by simp [e']
      rw [if_pos a, if_pos b]; exact .cons ⟨h1, h2⟩ ih
theorem KV.keys {kvs : List (κ × V)} {vs : List (κ × Value)} (r : KV kvs vs) : kvs.map (·.1) = vs.map (·.1) := by
  unfold KV at r
  induction r with
  | nil => rfl
  | cons h t ih => rw [List.map_cons, List.map_cons, ih, h.1]
theorem KV.length {kvs : List (κ × V)} {vs : List (κ × Value)} (r : KV kvs vs) : kvs.length = vs.length := Paired.length r
end
theorem Vt {P : Program} {w : World} {k : zG} {u : Value} (r : RelV (kV k) u) : (wk P w).is k u = true := by
  cases k with
  | inl i => obtain ⟨t, e⟩ := (show ∃ t, u = Value.int i t from r); subst e; exact zbP P w i t
  | inr x => obtain ⟨t, e⟩ := (show ∃ t, u = Value.str x t from r); subst e; exact zbQ P w x t
theorem kI {P : Program} {w : World} : ∀ {ks : List zG} {us : List Value}, Vals (ks.map kV) us → ItemsAre (wk P w) ks us
  | [], _, r => by rw [List.map_nil] at r; cases r; exact .nil
  | k :: ks, _, r => by
    rw [List.map_cons] at r
    cases r with
    | cons h t => exact .cons (Vt h) (kI t)
noncomputable abbrev KT (H : Hp) : List (List zG × V) → List (List zG × Addr × Value) → Prop := Paired fun p q => p.1 = q.1 ∧ H q.2.1 = some (.tup (p.1.map kV)) ∧ RelV p.2 q.2.2
theorem KT.val {H : Hp} {kvs : List (List zG × V)} {xs : List (List zG × Addr × Value)} (r : KT H kvs xs) (k : List zG) : RelO (yz kvs k) ((atKey xs k).map (·.2)) := by
  induction r with
  | nil => exact True.intro
  | @cons p q ps qs h t ih =>
    obtain ⟨h1, _, h2⟩ := h
    by_cases e : p.1 = k
    · have e' : q.1 = k := h1.symm.trans e
      have b : atKey (q :: qs) k = some q.2 := by simp [atKey, List.find?_cons, e']
      rw [jY e, b]; exact h2
    · have e' : ¬ q.1 = k := fun z => e (h1.trans z)
      have b : atKey (q :: qs) k = atKey qs k := by simp [atKey, List.find?_cons, e']
      rw [jZ e, b]; exact ih
theorem KT.repl {H : Hp} {kvs : List (List zG × V)} {xs : List (List zG × Addr × Value)} (r : KT H kvs xs) (k : List zG) {y : V} {u : Value} (ry : RelV y u) :
    KT H (kvs.map fun kv => if kv.1 = k then (kv.1, y) else kv) (xs.map (putAt k u)) := by
  induction r with
  | nil => exact .nil
  | @cons p q ps qs h t ih =>
    rw [List.map_cons, List.map_cons]
    refine .cons ?_ ih
    obtain ⟨h1, h2, h3⟩ := h
    unfold putAt
    by_cases e : p.1 = k
    · rw [if_pos e, if_pos (h1.symm.trans e)]; exact ⟨h1, h2, ry⟩
    · rw [if_neg e, if_neg (fun z => e (h1.trans z))]; exact ⟨h1, h2, h3⟩
theorem KT.put {H : Hp} {kvs : List (List zG × V)} {xs : List (List zG × Addr × Value)} (r : KT H kvs xs) (k : List zG) {b : Addr} {y : V} {u : Value} (hb : H b = some (.tup (k.map kV))) (ry : RelV y u) :
    KT H (vm kvs k y) (storedH xs k b u) := by
  have e : (kvs.any fun kv => decide (kv.1 = k)) = (atKey xs k).isSome := by
    rw [kH, (r.val k).isSome_eq, Option.isSome_map]
  unfold vm storedH
  rw [e]
  by_cases q : (atKey xs k).isSome = true
  · rw [if_pos q, if_pos q]; exact r.repl k ry
  · rw [if_neg q, if_neg q]; exact Paired.snoc r ⟨rfl, hb, ry⟩
theorem KT.keeps {H H' : Hp} {kvs : List (List zG × V)} {xs : List (List zG × Addr × Value)} (r : KT H kvs xs) (ht : ∀ b ys, H b = some (.tup ys) → H' b = some (.tup ys)) : KT H' kvs xs :=
  Paired.mapP r fun _ _ z => ⟨z.1, ht _ _ z.2.1, z.2.2⟩
section
variable {P : Program} {w : World} {H : Hp} {h : Heap} {a : Addr}
theorem kJ {u : HO} (ok : HOk P w H h) (e : Rd H a u) : ObjOk P w H h a u := e.ok ok
theorem Yx {kvs : List (zG × V)} (ok : HOk P w H h) (e : Rd H a (.dK kvs)) : kvs.length ≤ sizeLine ∧ (a == sysModules) = false ∧ ∃ vs, KV kvs vs ∧ h.DictOf (wk P w) a vs :=
  show ObjOk P w H h a (.dK kvs) from kJ ok e
theorem Vu {ks : List zG} (ok : HOk P w H h) (e : H a = some (.tup (ks.map kV))) : (tupleKind (wk P w)).is h ks a := by
  obtain ⟨_, its, r, o, h1, h2, n, h3⟩ := (show ObjOk P w H h a (.tup (ks.map kV)) from ok a _ e)
  exact ⟨o, its.toArray, n, h1, h2, h3, by simpa using kI r⟩
theorem Yy {kvs : List (List zG × V)} (ok : HOk P w H h) (e : Rd H a (.dT kvs)) : kvs.length ≤ sizeLine ∧ (a == sysModules) = false ∧
    ∃ xs, KT H kvs xs ∧ h.DictOfH (tupleKind (wk P w)) a xs := by
  obtain ⟨z, y, xs, r, o, es, ep, h1, h2, h3, h4, h5⟩ := (show ObjOk P w H h a (.dT kvs) from kJ ok e)
  refine ⟨z, y, xs, r, o, es, ep, h1, h2, h3, h4, fun x hx => ?_, h5⟩
  have all : ∀ {l : List (List zG × V)} {m : List (List zG × Addr × Value)}, KT H l m → ∀ x ∈ m, (tupleKind (wk P w)).is h x.1 x.2.1 := by
    intro l m q
    induction q with
    | nil => intro x hx; exact nomatch hx
    | @cons p q ps qs hq t ih =>
      intro x hx
      rcases List.mem_cons.mp hx with e | hx
      · subst e
        exact Vu ok (by rw [← hq.1]; exact hq.2.1)
      · exact ih x hx
  exact all r x hx
end
noncomputable def DGet (H : Hp) (a : Addr) (y : V) (r : Option V) : Prop :=
  (∃ kvs k, Rd H a (.dK kvs) ∧ y = kV k ∧ r = yz kvs k) ∨ ∃ kvs k b, Rd H a (.dT kvs) ∧ y = .ref b ∧ H b = some (.tup (k.map kV)) ∧ r = yz kvs k
noncomputable def DPut (H : Hp) (a : Addr) (y v : V) (H' : Hp) : Prop :=
  (∃ kvs k, H a = some (.dK kvs) ∧ y = kV k ∧ kvs.length < sizeLine ∧ H' = zJ H a (.dK (vm kvs k v))) ∨
  ∃ kvs k b, H a = some (.dT kvs) ∧ y = .ref b ∧ H b = some (.tup (k.map kV)) ∧ kvs.length < sizeLine ∧ H' = zJ H a (.dT (vm kvs k v))
theorem DGet.k {H : Hp} {a : Addr} {kvs : List (zG × V)} {k : zG} (e : H a = some (.dK kvs)) : DGet H a (kV k) (yz kvs k) := .inl ⟨kvs, k, .inl e, rfl, rfl⟩
theorem DGet.t {H : Hp} {a b : Addr} {kvs : List (List zG × V)} {k : List zG} (e : H a = some (.dT kvs)) (eb : H b = some (.tup (k.map kV))) : DGet H a (.ref b) (yz kvs k) := .inr ⟨kvs, k, b, .inl e, rfl, eb, rfl⟩
theorem DPut.k {H : Hp} {a : Addr} {kvs : List (zG × V)} {k : zG} {v : V} (e : H a = some (.dK kvs)) (hl : kvs.length < sizeLine) : DPut H a (kV k) v (zJ H a (.dK (vm kvs k v))) := .inl ⟨kvs, k, e, rfl, hl, rfl⟩
theorem DPut.t {H : Hp} {a b : Addr} {kvs : List (List zG × V)} {k : List zG} {v : V} (e : H a = some (.dT kvs)) (eb : H b = some (.tup (k.map kV))) (hl : kvs.length < sizeLine) :
    DPut H a (.ref b) v (zJ H a (.dT (vm kvs k v))) := .inr ⟨kvs, k, b, e, rfl, eb, hl, rfl⟩
section
variable {X : Cx} {pins : List (Addr × Obj)} {σ : St} {H : Hp} {s : Shared} {a : Addr} {y v : V} {u r : Value} {o : Option V} {A : Around} {E : Value → Shared → Prop}
theorem zdz {Q : Value → Shared → Prop} (hu : A.units + 1 < cLine) (I : Inv X pins σ H s) (g : DGet H a y (some v)) (ry : RelV y u) (h : ∀ w' s', Inv X pins σ H s' → RelV v w' → Q w' s') :
    wpAny (model X.prog X.w) A (getItem (.ref a) u) Q E s := by
  rcases g with ⟨kvs, k, e, ey, l⟩ | ⟨kvs, k, b, e, ey, eb, l⟩
  · subst ey
    obtain ⟨z, hd, vs, rel, dd⟩ := Yx I.hok e
    obtain ⟨w', hw, rw'⟩ := RelO.some_of (v := v) (o := valueAt vs k) (by rw [l]; exact rel.val k)
    exact wpAny_getItem_of (Vt ry) dd.mapOf hw (h w' _ (I.tok _) rw')
  · subst ey
    cases (show u = Value.ref b from ry)
    obtain ⟨z, hd, xs, rel, dd⟩ := Yy I.hok e
    obtain ⟨w', hw, rw'⟩ := RelO.some_of (v := v) (o := (atKey xs k).map (·.2)) (by rw [l]; exact rel.val k)
    obtain ⟨p, hp, hp2⟩ := jo2.mp hw
    refine wpAny_getItem_heap (tupleKind_room_in1 hu) (Vu I.hok eb) dd hp ?_
    rw [hp2]
    exact h w' _ (I.tok _) rw'
theorem kK {Q : Value → Shared → Prop} (hu : A.units + 1 < cLine) (I : Inv X pins σ H s) (g : DGet H a y o) (ry : RelV y u) (h : ∀ s', Inv X pins σ H s' → Q (.bool o.isSome) s') :
    wpAny (model X.prog X.w) A (compareOp .In u (.ref a)) Q E s := by
  rcases g with ⟨kvs, k, e, ey, l⟩ | ⟨kvs, k, b, e, ey, eb, l⟩
  · subst ey
    obtain ⟨z, hd, vs, rel, dd⟩ := Yx I.hok e
    refine wpAny_in_of (Vt ry) hd dd.mapOf ?_
    rw [← (rel.val k).isSome_eq, ← l]
    exact h _ (I.tok _)
  · subst ey
    cases (show u = Value.ref b from ry)
    obtain ⟨z, hd, xs, rel, dd⟩ := Yy I.hok e
    refine wpAny_in_heap (tupleKind_room_in1 hu) (Vu I.hok eb) hd dd ?_
    have q := (rel.val k).isSome_eq
    rw [Option.isSome_map] at q
    rw [← q, ← l]
    exact h _ (I.tok _)
end
theorem zdA {X : Cx} {pins : List (Addr × Obj)} {σ : St} {H : Hp} {s : Shared} {a : Addr} {y : V} {o : Option V} (I : Inv X pins σ H s) (g : DGet H a y o) : s.TypeIs (.ref a) "dict" := by
  rcases g with ⟨kvs, k, e, _, _⟩ | ⟨kvs, k, b, e, _, _, _⟩
  · obtain ⟨_, _, vs, _, dd⟩ := Yx I.hok e
    exact dd.typeIs
  · obtain ⟨_, _, xs, _, dd⟩ := Yy I.hok e
    exact dd.typeIs
end L2
namespace Att
open PySem PySem.W PySem.Calls PyProof.Rows
theorem zdB {P : Params} {h : Heap} : ∀ (ns : List Int) (vs : List Value), WellAll P h vs (ns.map WData.int) → IntsAre vs ns := by
  intro ns
  induction ns with
  | nil =>
    intro vs w
    rw [List.map_nil] at w
    cases w
    exact .nil
  | cons n ns ih =>
    intro vs w
    rw [List.map_cons] at w
    cases w with
    | cons a b =>
      cases a
      exact .cons _ _ (ih _ b)
theorem zdC {l : OpenLaw} {n : Nat} (hn : l.most = some n) {P : Params} {h : Heap} {args : List WData} {vals : List Value}
    (hpre : l.row.toRowW.claim.pre args = true) (hwl : WellAll P h vals args) :
    ∃ a vs ns, vals = [Value.ref a] ∧ args = [WData.list (ns.map WData.int)] ∧ h.get? a = some { cls := .type "list", data := .seq vs.toArray } ∧ IntsAre vs ns ∧ ns.length ≤ n := by
  have hsh : WShape.hasAll [] args [.list .int] = true := (pre_splitW hpre).1
  have hc : l.pre.holds [] { args := args } = true := (pre_splitW hpre).2
  obtain ⟨d, r, rfl, h1, h2⟩ := hasAllW_cons hsh
  obtain rfl := hasAllW_nil h2
  obtain ⟨xs, rfl, h3⟩ := hasW_list h1
  obtain ⟨ns, rfl⟩ := items_int h3
  have hlen : ns.length ≤ n := by
    unfold OpenLaw.pre at hc
    have h4 : (WTm.not (.lt (.lit (.int (n : Int))) (.len (.arg 0)))).holds [] { args := [.list (ns.map .int)] } = true := by
      have h4 := (holds_andW hc).1
      rw [hn] at h4
      exact h4
    have h5 := condW_of h4 (w_not (w_lt w_lit (w_len_list (w_arg rfl))))
    rw [List.length_map] at h5
    refine Nat.le_of_not_lt fun q => ?_
    have q' : (n : Int) < ((ns.length : Nat) : Int) := by omega
    first
      | (rw [decide_eq_true q'] at h5; exact absurd h5 (by decide))
      | (simp at h5; omega)
  cases hwl with
  | cons w1 w2 =>
    cases w2
    cases w1 with
    | list ho hall => exact ⟨_, _, ns, rfl, rfl, ho, zdB ns _ hall, hlen⟩
theorem zdD (l : OpenLaw) (args : List WData) : l.row.toRowW.claim.post args (.bool true) args = true :=
  postW_of (r := l.row.toRowW) (X := (true == true))
    (show WShape.has [] (.bool true) .bool = true by first | rfl | decide | simp [WShape.has, WShape.arms, WShape.armsAll])
    (show (WTm.eq .res (.lit (.bool true))).value [] { args := args, res := some (.bool true), after := args } = some (.bool (true == true)) from w_eq_bool (w_res rfl) w_lit) rfl
theorem attach_call {l : OpenLaw} {n : Nat} {q : Program} {loose : List Str} {XP : (Str → Option Value) → Heap → Prop} {YP : World → Heap → Prop} {d : DefRec}
    (hn : l.most = some n) (hdf : d.params.defaults = [])
    (call : ∀ (w : World) (s₀ s₁ : Shared) (mg mb : Str → Option Value) (fa : Addr) (o : Obj) (pm cd doc : Value) (a : Addr) (vs : List Value) (ns : List Int),
      Ground q loose [] XP w s₀ mg mb s₁.heap → YP w s₁.heap →
      s₁.heap.get? fa = some o → o.data = .func (docDef d.name d.params d.body d.scope pm cd doc) → s₁.heap.CodeRec cd d.name → mg d.name = some (.ref fa) →
      s₁.heap.get? a = some { cls := .type "list", data := .seq vs.toArray } → IntsAre vs ns → ns.length ≤ n → s₁.gens = #[] →
      codeAny (model l.prog w) callerA (.call (.ref fa) ⟨[.ref a], []⟩) (fun r s' => r = .ok (.ret (.bool true)) ∧ OldK s₁.heap s'.heap ∧ s'.os = s₁.os ∧ AllBare s'.gens) s₁) :
    WalkO q loose XP YP l.row.toRowW d [] (fun f vs => PySem.call f vs) := by
  intro w s₀ s₁ mg mb G Y fa o pm cd doc dV kV ho hd hcd hD hmg hg args vals as hpre hlay hrd hwl hlo
  obtain rfl : dV = .none := Dflts.none hD hdf
  obtain rfl : kV = .none := Dflts.noKw hD
  obtain ⟨a, vs, ns, rfl, rfl, hobj, hints, hlen⟩ := zdC hn hpre hwl
  refine enter_call (codeAny_mono (call w s₀ s₁ mg mb fa o pm cd doc a vs ns G Y ho (fd_plain hd) hcd hmg hobj hints hlen hg) fun r s' hq => ?_)
  obtain ⟨rfl, h2, h3, h4⟩ := hq
  exact ⟨.inl ⟨.bool true, .bool true, [], rfl, fun _ => rfl, .bool true, zdD l _, fun _ => ⟨List.Pairwise.nil, fun _ hm => (nomatch hm)⟩⟩, h2, h3, h4⟩
section
variable {prog : Program} {w : World} {A : Around} {E : Value → Shared → Prop} {s : Shared} {K : Frag}
noncomputable def zkR (h : Heap) (L d : Addr) : List (Addr × Obj) := (List.range h.objs.size).filterMap fun a => if a = L ∨ a = d then none else (h.get? a).map fun o => (a, o)
end
end Att
namespace L2
open PySem PySem.Spec PyProof.Rows
theorem kL : ∀ {vs : List Value} {ns : List Int}, IntsAre vs ns → Vals (ns.map V.int) vs
  | _, _, .nil => .nil
  | _, _, .cons n t h => .cons ⟨t, rfl⟩ (kL h)
noncomputable def Yz (H : Hp) : Prop := ∀ b, H b = none ∨ ∃ o xs, H b = some (.frz o (.lst xs))
theorem zdE {P : Program} {w : World} {K : PySem.W.Frag} {mg mb : Str → Option Value} {CX : xA} {k : Nat} {fa a : Addr} {fd : FuncData} {x : Str} {sp : Sp} {s₁ : Shared} {vs : List Value} {ns : List Int}
    (KX : K.In s₁.heap) (hns : s₁.heap.Ns mainGlobals mg) (hb : s₁.heap.Ns builtinsNs mb) (hbb : ∀ x : Str, x ≠ "__name__" → mb x = bootBuiltins x) (hlim : s₁.heap.NoLimit) (hg : s₁.gens = #[])
    (ha : s₁.heap.get? a = some { cls := .type "list", data := .seq vs.toArray }) (hi : IntsAre vs ns) (hl : ns.length ≤ sizeLine) (hr : Room k callerA)
    (F : ∀ base : Heap, K.In base → base.Ns mainGlobals mg → FnOk P w K mg base CX k fa fd [x] sp) (hbind : ∀ (s : Shared) (u : Value), BindsTo s fd ⟨[u], []⟩ [(x, u)])
    (hsp : ∀ H : Hp, Yz H → SqL K H a (ns.map V.int) → sp [.ref a] H (fun v _ => v = .bl true) fun _ _ _ => False)
    (hCX : ∀ H e s', CX [] H s₁ (fun _ _ _ => False) e s' → False) :
    codeAny (model P w) callerA (.call (.ref fa) ⟨[.ref a], []⟩) (fun r s' => r = .ok (.ret (.bool true)) ∧ OldK s₁.heap s'.heap ∧ s'.os = s₁.os ∧ AllBare s'.gens) s₁ := by
  have rv := kL hi
  have lenV := hi.length
  have core : ∀ H : Hp, Yz H → SqL K H a (ns.map V.int) → HOk P w H s₁.heap → (∀ b, H b ≠ none → b = a) → (H a ≠ none → K.lookup a = none) →
      codeAny (model P w) callerA (.call (.ref fa) ⟨[.ref a], []⟩) (fun r s' => r = .ok (.ret (.bool true)) ∧ OldK s₁.heap s'.heap ∧ s'.os = s₁.os ∧ AllBare s'.gens) s₁ := by
    intro H hO hS hok hA hK
    have base_of : ∀ {b : Addr} {o : Obj}, s₁.heap.get? b = some o → H b = none → (wN s₁.heap H).get? b = some o := fun e n => zbS e n
    have noA : ∀ {b : Addr} {o : Obj} {es : Array DictEntry} {ep : Nat}, s₁.heap.get? b = some o → o.data = .dict es ep → H b = none := fun {b o es ep} e d => by
      cases q : H b with
      | none => rfl
      | some u =>
        have e' : b = a := hA b (by rw [q]; simp)
        subst e'
        rw [ha] at e; cases e
        have d' : Data.seq vs.toArray _ = Data.dict es ep := d
        cases d'
    have nsK : ∀ {b : Addr} {m : Str → Option Value}, s₁.heap.Ns b m → (wN s₁.heap H).Ns b m := fun {b m} ⟨o, es, ep, e, d, r⟩ => ⟨o, es, ep, base_of e (noA e d), d, r⟩
    have hKb : K.In (wN s₁.heap H) := fun b o e => base_of (KX b o e) (by
      cases q : H b with
      | none => rfl
      | some u =>
        have e' : b = a := hA b (by rw [q]; simp)
        subst e'
        rw [hK (by rw [q]; simp)] at e; cases e)
    have hM : Mod K mg (wN s₁.heap H) := ⟨hKb, nsK hns, ⟨mb, nsK hb, hbb⟩, let ⟨mc, h1, h2⟩ := hlim; ⟨mc, nsK h1, h2⟩⟩
    have e0 : Env0 P w K mg (wN s₁.heap H) callerA [] s₁ H := ⟨rfl, hM, fun b o e => zbT e, Nat.le_of_eq (zbR _ _), trivial, fun b hb => absurd (show b ∈ ([] : List Addr) from hb) (by simp), hok, .of_eq hg⟩
    refine codeAny_mono ((F _ hKb (nsK hns)).run callerA [] s₁ H ⟨[.ref a], []⟩ [.ref a] [.ref a] _ _ hr e0 (hbind s₁ (.ref a)) (.cons rfl .nil) (hsp H hO hS)) fun r s' h => ?_
    cases r with
    | error e => exact (hCX H e s' h).elim
    | ok fl =>
      cases fl with
      | next => exact False.elim h
      | brk => exact False.elim h
      | cont => exact False.elim h
      | ret u =>
        obtain ⟨v, H', os, bare, un, hok', r', q⟩ := h
        have q' : v = .bl true := q
        subst q'
        obtain rfl : u = Value.bool true := r'
        refine ⟨rfl, OldK.of_keep fun b o e => ?_, os, bare⟩
        cases q : H b with
        | none => exact un.keep b o e q (by intro z; exact absurd (show b ∈ ([] : List Addr) from z) (by simp)) (by simp)
        | some u =>
          rcases hO b with z | ⟨ob, xs, z⟩
          · rw [q] at z; cases z
          · have z2 := un.frzs b ob _ z
            obtain ⟨e1, _⟩ := hok b _ z
            obtain ⟨e2, _⟩ := hok' b _ z2
            rw [e] at e1; cases e1
            exact e2
  cases hk : K.lookup a with
  | some o =>
    have e := KX a o hk
    rw [ha] at e
    cases e
    refine core (fun _ => none) (fun _ => .inl rfl) (.inr ⟨_, vs.toArray, _, hk, rfl, rfl, rfl, by rw [List.size_toArray, lenV]; exact hl, by simpa using rv⟩) (fun b u z => by have z' : (none : Option HO) = some u := z; cases z') (fun b z => absurd rfl z) fun z => absurd rfl z
  | none =>
    refine core (fun b => if b = a then some (.frz { cls := .type "list", data := .seq vs.toArray } (.lst (ns.map V.int))) else none) (fun b => ?_) (.inl (.inr ⟨{ cls := .type "list", data := .seq vs.toArray }, if_pos rfl⟩)) (fun b u z => ?_) (fun b z => ?_) fun _ => hk
    · by_cases hb : b = a
      · exact .inr ⟨_, _, if_pos hb⟩
      · exact .inl (if_neg hb)
    · by_cases hb : b = a
      · have z' := (if_pos hb).symm.trans z
        cases z'
        subst hb
        exact ⟨ha, by rw [List.length_map]; exact hl, vs, _, rv, ha⟩
      · have z' := (if_neg hb).symm.trans z
        cases z'
    · by_cases hb : b = a
      · exact hb
      · exact absurd (if_neg hb) z
end L2
namespace L2
open PySem PySem.Spec PyProof.Rows
noncomputable abbrev zkS {K : PySem.W.Frag} {h : Heap} (_ : K.In h) : PySem.W.Frag := K
theorem zdF {l : PySem.W.OpenLaw} {n k : Nat} {q : Program} {loose : List Str} {XP : (Str → Option Value) → Heap → Prop} {YP : World → Heap → Prop} {d : DefRec} {K : Params → PySem.W.Frag} {CX : World → xA} {sp : World → Sp} {x : Str}
    (hn : l.most = some n) (hn2 : n ≤ sizeLine) (hdf : d.params.defaults = []) (hr : Room k callerA)
    (hY : ∀ (w : World) (h : Heap), YP w h → (K w.params).In h)
    (F : ∀ (w : World) (mg : Str → Option Value) (fa : Addr) (h : Heap), (K w.params).In h → h.Ns mainGlobals mg → mg d.name = some (.ref fa) →
      ∃ fd : FuncData, (∀ (s : Shared) (u : Value), BindsTo s fd ⟨[u], []⟩ [(x, u)]) ∧
        ∀ base : Heap, (K w.params).In base → base.Ns mainGlobals mg → FnOk l.prog w (K w.params) mg base (CX w) k fa fd [x] (sp w))
    (hsp : ∀ (w : World) (H : Hp) (a : Addr) (ns : List Int), ns.length ≤ n → Yz H → SqL (K w.params) H a (ns.map V.int) → sp w [.ref a] H (fun v _ => v = .bl true) fun _ _ _ => False)
    (hCX : ∀ (w : World) (H : Hp) (s : Shared) (e : Value) (s' : Shared), CX w [] H s (fun _ _ _ => False) e s' → False) :
    PySem.W.WalkO q loose XP YP l.row.toRowW d [] (fun f vs => PySem.call f vs) := by
  refine Att.attach_call hn hdf fun w s₀ s₁ mg mb fa o pm cd doc a vs ns G Y ho hd hcd hmg hobj hints hlen hg => ?_
  have KX := hY w _ Y
  obtain ⟨fd, hb, hF⟩ := F w mg fa _ KX G.T.g hmg
  exact zdE KX G.T.g G.T.b G.T.builtins G.T.nolimit hg hobj hints (Nat.le_trans hlen hn2) hr hF hb (fun H hO hS => hsp w H a ns hlen hO hS) fun H e s' => hCX w H s₁ e s'
theorem zdG {l : PySem.W.OpenLaw} {n k : Nat} {q : Program} {loose : List Str} {XP : (Str → Option Value) → Heap → Prop} {YP : World → Heap → Prop} {d : DefRec} {K : Params → PySem.W.Frag} {CX : xA} {sp : PySem.W.Frag → Sp} {x : Str}
    (hn : l.most = some n) (hn2 : n ≤ sizeLine) (hdf : d.params.defaults = []) (hr : Room k callerA)
    (hY : ∀ (w : World) (h : Heap), YP w h → (K w.params).In h)
    (F : ∀ (w : World) (mg : Str → Option Value) (fa : Addr) (h : Heap), (K w.params).In h → h.Ns mainGlobals mg → mg d.name = some (.ref fa) →
      ∃ fd : FuncData, (∀ (s : Shared) (u : Value), BindsTo s fd ⟨[u], []⟩ [(x, u)]) ∧
        ∀ base : Heap, (K w.params).In base → base.Ns mainGlobals mg → FnOk l.prog w (K w.params) mg base CX k fa fd [x] (sp (K w.params)))
    (hsp : ∀ (K : PySem.W.Frag) (H : Hp) (a : Addr) (ns : List Int), ns.length ≤ n → Yz H → SqL K H a (ns.map V.int) → sp K [.ref a] H (fun v _ => v = .bl true) fun _ _ _ => False)
    (hCX : ∀ (H : Hp) (s : Shared) (e : Value) (s' : Shared), CX [] H s (fun _ _ _ => False) e s' → False) :
    PySem.W.WalkO q loose XP YP l.row.toRowW d [] (fun f vs => PySem.call f vs) :=
  zdF (K := K) (CX := fun _ => CX) (sp := fun w => sp (K w.params)) hn hn2 hdf hr hY F (fun w H a ns h1 h2 h3 => hsp (K w.params) H a ns h1 h2 h3) fun _ H s e s' => hCX H s e s'
end L2
namespace L2
open PySem PySem.Spec PyProof.Rows
noncomputable def jj (s : Stmt) : Arguments := match s with
  | .FunctionDef _ a _ _ _ _ _ _ _ _ => a
  | _ => { posonlyargs := [], args := [], vararg := none, kwonlyargs := [], kw_defaults := [], kwarg := none, defaults := [] }
noncomputable def xK (s : Stmt) : List Stmt := match s with
  | .FunctionDef _ _ b _ _ _ _ _ _ _ => b
  | _ => []
noncomputable def zy (s : Stmt) : Scope := match s with
  | .FunctionDef _ _ _ _ _ _ sc _ _ _ => sc
  | _ => { kind := .function, names := [], isGenerator := false, isCoroutine := false }
noncomputable abbrev yv : xA := fun _ _ _ _ _ _ => False
noncomputable abbrev E0 : XK := fun _ _ _ => False
theorem zdH {X : Cx} : vj yv X E0 := fun _ _ _ _ _ _ _ h => h.elim
structure Fun (K : PySem.W.Frag) (x qual : Str) (st : Stmt) (f : Addr) (fd : FuncData) : Prop where
  ex : ∃ (oc : Value) (od : Option Addr) (kV doc pm : Value) (an : Option Addr) (cdv ct : Value) (osl : Array (Option Value)),
    fd = PySem.W.fnOf x qual (jj st) (xK st) (zy st) .none kV doc pm an cdv ct ∧ K.lookup f = some ⟨oc, od, .func fd, osl⟩ ∧ PySem.W.codeIn K cdv qual = true
  kp : PySem.W.keepIn K (.ref f) = true
section
variable {P : Program} {w : World} {K : PySem.W.Frag} {mg : Str → Option Value} {base : Heap}
theorem Fun.ok {x qual : Str} {st : Stmt} {f : Addr} {fd : FuncData} {N ps : List Str} {k : Nat} {sp : Sp} (F : Fun K x qual st f fd) (S : FnScope N ps (zy st)) (len : ∀ vs H Q E, sp vs H Q E → vs.length = ps.length)
    (hbody : ∀ (cdv : Value) (A : Around) (outer : List Env) (s : Shared) (H : Hp) (vs : List V) (Q : VK) (E : XK), Room k (A.deeper (envOfC qual (zy st) s.heap.objs.size f cdv)) → sp vs H Q E →
      ∃ t, PSs (xg yv P w K mg base N qual (zy st) f cdv A outer s H E).nox (xK st) t ∧ t { nx := fun _ H' => Q .non H', rt := Q } (yV N vs) H) : FnOk P w K mg base yv (k + 1) f fd ps sp := by
  obtain ⟨oc, od, kV, doc, pm, an, cdv, ct, osl, rfl, lk, hcd⟩ := F.ex
  refine kr lk hcd S len fun A outer s H vs Q E hr hsp => ?_
  obtain ⟨t, h, q⟩ := hbody cdv A outer s H vs Q E hr hsp
  exact ⟨t, h.nox, q⟩
theorem Fun.binds {x qual : Str} {st : Stmt} {f : Addr} {fd : FuncData} {ps : List Str} (F : Fun K x qual st f fd)
    (h : ∀ (kV doc pm : Value) (an : Option Addr) (cdv ct : Value) (us : List Value), us.length = ps.length → bindArgs (PySem.W.fnOf x qual (jj st) (xK st) (zy st) .none kV doc pm an cdv ct) ⟨us, []⟩ = pure (ps.zip us)) : Binds K fd ps [] := by
  obtain ⟨oc, od, kV, doc, pm, an, cdv, ct, osl, rfl, lk, hcd⟩ := F.ex
  exact .all (h kV doc pm an cdv ct)
theorem zdI {x qual : Str} {st : Stmt} {f : Addr} {oc : Value} {od an : Option Addr} {osl : Array (Option Value)} {kV doc pm cdv ct : Value} (l : K.lookup f = some ⟨oc, od, .func (PySem.W.fnOf x qual (jj st) (xK st) (zy st) .none kV doc pm an cdv ct), osl⟩)
    (c : PySem.W.codeIn K cdv qual = true) (k : PySem.W.keepIn K (.ref f) = true) : Fun K x qual st f (PySem.W.fnOf x qual (jj st) (xK st) (zy st) .none kV doc pm an cdv ct) := ⟨⟨oc, od, kV, doc, pm, an, cdv, ct, osl, rfl, l, c⟩, k⟩
end
theorem kM {n : Nat} (h : n ≤ 1000) : n < sizeLine := Nat.lt_of_le_of_lt h (by decide)
noncomputable def Same (H H' : Hp) : Prop := ∀ b o, H b = some o → H' b = some o
theorem Same.refl (H : Hp) : Same H H := fun _ _ h => h
theorem Same.trans {H H1 H2 : Hp} (a : Same H H1) (b : Same H1 H2) : Same H H2 := fun c o h => b c o (a c o h)
theorem Same.free {H H' : Hp} (e : Same H H') {l : Addr} (h : H' l = Option.none) : H l = Option.none := by
  cases q : H l with
  | none => rfl
  | some o =>
    rw [e l o q] at h
    cases h
theorem Same.seq {K : PySem.W.Frag} {H H' : Hp} {a : Addr} {xs : List V} (e : Same H H') (h : SqL K H a xs) : SqL K H' a xs := by
  rcases h with (h | ⟨o, h⟩) | h
  · exact .inl (.inl (e _ _ h))
  · exact .inl (.inr ⟨o, e _ _ h⟩)
  · exact .inr h
end L2
namespace L2.LW
open PySem
set_option genSizeOf false
inductive D where
  | int (i : Int) | bl (b : Bool) | non | str (x : Str) | tup (l : List D) | lst (l : List D)
  | dct (t : Bool) (ks vs : List D)
mutual
noncomputable def zT : D → D → Bool
  | .int a, .int b => a == b
  | .bl a, .bl b => a == b
  | .int a, .bl b => a == (if b then 1 else 0)
  | .bl a, .int b => (if a then 1 else 0) == b
  | .non, .non => true
  | .str a, .str b => a == b
  | .tup xs, .tup ys => yG xs ys
  | .lst xs, .lst ys => yG xs ys
  | _, _ => false
noncomputable def yG : List D → List D → Bool
  | [], [] => true
  | x :: xs, y :: ys => zT x y && yG xs ys
  | _, _ => false
end
mutual
noncomputable def plain : D → Bool
  | .lst _ => false
  | .dct _ _ _ => false
  | .tup l => yw l
  | _ => true
noncomputable def yw : List D → Bool
  | [] => true
  | x :: xs => plain x && yw xs
end
inductive SV where
  | val (d : D) | obj (o : Bool) (d : D) | io (d : D)
noncomputable abbrev SV.lis (o : Bool) (ds : List D) : SV := .obj o (.lst ds)
noncomputable def toD : SV → Option D
  | .val d => some d
  | .obj true d => some d
  | _ => none
noncomputable def zu : SV → D
  | .val d => d
  | .obj _ d => d
  | .io d => d
noncomputable def SV.lent : SV → Bool
  | .val _ => false
  | .obj true _ => false
  | _ => true
noncomputable def xM : D → Bool
  | .lst ds => yw ds
  | .dct _ _ vs => yw vs
  | d => plain d
noncomputable def SV.plain : SV → Bool
  | .val d => LW.plain d
  | .obj _ d => xM d
  | .io _ => false
noncomputable abbrev Env := List (Option SV)
inductive Ty where
  | bool | int | str | list | tuple
  deriving DecidableEq
inductive Prim where
  | add | sub | mul | fdiv | mod | neg | eq | ne | lt | le | gt | ge | isN | notN | inn | nin | idx | len | abs | min2 | max2 | sorted | sortP | skeys | nset | sset | shl | shr | band | bor | bxor | blen | dget | cutT | cutF | addT | mulT | mulL | idxS | cutTS | cutFS | cutFL | joinN | inS | ninS | mulS | lenS | addS | join0 | splitN | eqS | neS | toList | toTup | all | inst (t : Ty) | cutTo | maxL | minL | sumL | intOf
set_option genInjectivity false
mutual
inductive E where
  | int (i : Int) | bl (b : Bool) | non | str (x : Str)
  | var (i : Nat)
  | prim (p : Prim) (es : Es)
  | tup (es : Es) | lst (es : Es)
  | and (a b : E) | or (a b : E) | not (a : E)
  | chain (p q : Prim) (a b c : E)
  | ite (c a b : E)
  | call (f : Nat) (es : Es)
  | comp (rng : Bool) (src : Es) (cond elt : E)
  | dnew (t : Bool) | done (t : Bool) (k v : E)
  | compE (src cond elt : E)
inductive Es where
  | nil | cons (e : E) (es : Es)
end
set_option genInjectivity true
noncomputable def wp : Ty → D → Bool
  | .bool, .bl _ => true
  | .int, .int _ => true
  | .int, .bl _ => true
  | .str, .str _ => true
  | .list, .lst _ => true
  | .tuple, .tup _ => true
  | _, _ => false
noncomputable def ints? : List D → Option (List Int)
  | [] => some []
  | .int i :: r => (ints? r).map (i :: ·)
  | _ => none
noncomputable def lexLt : List Int → List Int → Bool
  | _, [] => false
  | [], _ :: _ => true
  | x :: xs, y :: ys => if x = y then lexLt xs ys else decide (x < y)
noncomputable def ixN (n : Nat) (i : Int) : Option Nat := if 0 ≤ i then (if i < n then some i.toNat else none) else if -(n : Int) ≤ i then some (i + n).toNat else none
noncomputable def atI {α : Type} (xs : List α) (i : Int) : Option α := (ixN xs.length i).bind fun j => xs[j]?
noncomputable def bools? : List D → Option (List Bool)
  | [] => some []
  | .bl i :: r => (bools? r).map (i :: ·)
  | _ => none
noncomputable def line : Nat := 16777216
noncomputable def vG : D → Option (List D)
  | .tup l => some l
  | .lst l => some l
  | _ => none
noncomputable def tups? : List D → Option (List (List Int))
  | [] => some []
  | .tup l :: r => (ints? l).bind fun x => (tups? r).map (x :: ·)
  | _ => none
noncomputable def kN (x : List Int) : List (List Int) → List (List Int)
  | [] => [x]
  | y :: r => if lexLt x y then x :: y :: r else y :: kN x r
noncomputable def Za : List (List Int) → List (List Int)
  | [] => []
  | x :: r => kN x (Za r)
noncomputable def zdJ (l : List Int) : List Int := l.mergeSort (fun a b => decide (a ≤ b))
noncomputable def zE : Nat → D → Bool
  | _, .int _ => true
  | _, .bl _ => true
  | _, .non => true
  | _, .str _ => false
  | 0, _ => false
  | n + 1, .tup l => l.all (zE n)
  | n + 1, .lst l => l.all (zE n)
  | _ + 1, .dct _ _ _ => false
noncomputable def yP : Bool → D → Bool
  | false, .int _ => true
  | true, .tup l => (ints? l).isSome
  | _, _ => false
noncomputable def yA (ks : List D) (k : D) : Option Nat := ks.findIdx? fun x => zT x k
noncomputable def dget (ks vs : List D) (k : D) : Option D := (yA ks k).bind fun i => vs[i]?
noncomputable def jk (t : Bool) (ks vs : List D) (k v : D) : D := if (yA ks k).isSome then .dct t ks (List.zipWith (fun k' v' => if zT k' k then v else v') ks vs) else .dct t (ks ++ [k]) (vs ++ [v])
noncomputable def yb (r : Int) : Option SV := some (.val (.int r))
noncomputable def ye (r : Bool) : Option SV := some (.val (.bl r))
noncomputable def YA : List D → Option SV
  | [.int a, .int b] => yb (a + b)
  | [.lst a, .lst b] => if a.length + b.length ≤ line then some (SV.obj true (.lst (a ++ b))) else none
  | _ => none
noncomputable def Vv : List D → Option SV
  | [.int a, .int b] => yb (a - b)
  | _ => none
noncomputable def YB : List D → Option SV
  | [.int a, .int b] => if (-(2 ^ 64) < a ∧ a < 2 ^ 64) ∨ (-(2 ^ 64) < b ∧ b < 2 ^ 64) then yb (a * b) else none
  | _ => none
noncomputable def zdK : List D → Option SV
  | [.int a, .int b] => if 0 < b ∧ b < 1073741824 then yb (a / b) else none
  | _ => none
noncomputable def YC : List D → Option SV
  | [.int a, .int b] => if 0 < b then yb (a % b) else none
  | _ => none
noncomputable def Vw : List D → Option SV
  | [.int a] => yb (-a)
  | _ => none
noncomputable def Zb : List D → Option SV
  | [a, b] => if zE 8 a && zE 8 b then ye (zT a b) else none
  | _ => none
noncomputable def Zc : List D → Option SV
  | [a, b] => if zE 8 a && zE 8 b then ye (!zT a b) else none
  | _ => none
noncomputable def Zd : List D → Option SV
  | [.int a, .int b] => ye (decide (a < b))
  | [.tup a, .tup b] => (ints? a).bind fun x => (ints? b).bind fun y => ye (lexLt x y)
  | _ => none
noncomputable def YD : List D → Option SV
  | [.int a, .int b] => ye (decide (a ≤ b))
  | _ => none
noncomputable def YF : List D → Option SV
  | [.int a, .int b] => ye (decide (b < a))
  | [.tup a, .tup b] => (ints? a).bind fun x => (ints? b).bind fun y => ye (lexLt y x)
  | _ => none
noncomputable def kO : List D → Option SV
  | [.int a, .int b] => ye (decide (b ≤ a))
  | [.tup a, .tup b] => (ints? a).bind fun x => (ints? b).bind fun y => ye (!lexLt x y)
  | _ => none
noncomputable def wO : D → Bool
  | .non => true
  | _ => false
noncomputable def kP : List D → Option SV
  | [d] => ye (wO d)
  | _ => none
noncomputable def kQ : List D → Option SV
  | [d] => ye (!wO d)
  | _ => none
noncomputable def jl : List D → Option SV
  | [x, .dct t ks _] => if yP t x then ye (yA ks x).isSome else none
  | [x, .tup l] => if zE 8 x && l.all (zE 8) then ye (l.any fun y => zT y x) else none
  | [x, .lst l] => if zE 8 x && l.all (zE 8) then ye (l.any fun y => zT y x) else none
  | _ => none
noncomputable def YG : List D → Option SV
  | [x, .dct t ks _] => if yP t x then ye (!(yA ks x).isSome) else none
  | [x, .tup l] => if zE 8 x && l.all (zE 8) then ye (!l.any fun y => zT y x) else none
  | [x, .lst l] => if zE 8 x && l.all (zE 8) then ye (!l.any fun y => zT y x) else none
  | _ => none
noncomputable def Vx : List D → Option SV
  | [.dct t ks vs, k] => if yP t k then (dget ks vs k).map .val else none
  | [.tup l, .int i] => (atI l i).map .val
  | [.lst l, .int i] => (atI l i).map .val
  | _ => none
noncomputable def Vy : List D → Option SV
  | [.tup l] => yb l.length
  | [.lst l] => yb l.length
  | _ => none
noncomputable def zdL : List D → Option SV
  | [.int i] => yb (if i < 0 then -i else i)
  | _ => none
noncomputable def zdM : List D → Option SV
  | [.int i, .int j] => yb (if j < i then j else i)
  | _ => none
noncomputable def zdN : List D → Option SV
  | [.int i, .int j] => yb (if j > i then j else i)
  | _ => none
noncomputable def zdO (l : List D) : Option SV := match ints? l with
  | some ns => if ns.length < 64 then some (.obj true (.lst ((zdJ ns).map .int))) else none
  | none => (tups? l).bind fun ks => if ks.length < 64 ∧ ks.Nodup ∧ ks.all (fun k => !k.isEmpty) = true then some (.obj true (.lst ((Za ks).map fun k => .tup (k.map .int)))) else none
noncomputable def zdP : List D → Option SV
  | [.lst l] => zdO l
  | _ => none
noncomputable def zdQ (l : List D) : Option SV := (tups? l).bind fun ks => if ks.length < 64 ∧ ks.Nodup ∧ ks.all (fun k => !k.isEmpty) = true then some (.obj true (.lst ((Za ks).map fun k => .tup (k.map .int)))) else none
noncomputable def zdR : List D → Option SV
  | [.dct true ks _] => zdQ ks
  | _ => none
noncomputable def zdS : List D → Option SV
  | [.tup l, .int k] => if 0 ≤ k ∧ k < l.length then some (.val (.tup (l.take k.toNat))) else none
  | _ => none
noncomputable def zdT : List D → Option SV
  | [.tup l, .int k] => if 0 < k ∧ 0 < l.length then some (.val (.tup (l.drop k.toNat))) else none
  | _ => none
noncomputable def zdU : List D → Option SV
  | [.tup a, .tup b] => if a.length + b.length ≤ 10000000 then some (.val (.tup (a ++ b))) else none
  | _ => none
noncomputable def zdV : List D → Option SV
  | [.tup l, .int k] => if k = 2 ∧ l.length ≤ 1000 ∧ l ≠ [] then some (.val (.tup (l ++ l))) else none
  | _ => none
noncomputable def zdW : List D → Option SV
  | [.lst l, .int k] => if (k = 0 ∨ k = 1) ∧ l.length ≤ 1000 ∧ l ≠ [] then some (.obj true (.lst (if k = 1 then l else []))) else none
  | _ => none
noncomputable def Ze : List D → Option SV
  | [.str x, .int i] => if 0 ≤ i ∧ x.length ≤ 10000000 then (x.cps[i.toNat]?).map fun c => .val (.str ⟨#[c]⟩) else none
  | _ => none
noncomputable def vH : List D → Option SV
  | [.str x, .int k] => if x.length ≤ 10000 ∧ (0 ≤ k ∨ k = -1) then some (.val (.str ⟨(x.cps.toList.take (if k = -1 then x.length - 1 else k.toNat)).toArray⟩)) else none
  | _ => none
noncomputable def Zf : List D → Option SV
  | [.str x, .int k] => if x.length ≤ 10000 ∧ 0 ≤ k then some (.val (.str ⟨(x.cps.toList.drop k.toNat).toArray⟩)) else none
  | _ => none
noncomputable def Zg : List D → Option SV
  | [.lst l, .int k] => if 0 ≤ k then some (SV.obj true (.lst (l.drop k.toNat))) else none
  | _ => none
noncomputable def kR : List D → Option SV
  | [.str x, .str y] => match x.cps.toList with
    | [c] => ye (decide (c ∈ y.cps.toList))
    | _ => none
  | _ => none
noncomputable def jm : List D → Option SV
  | [.str x, .str y] => match x.cps.toList with
    | [c] => ye (!decide (c ∈ y.cps.toList))
    | _ => none
  | _ => none
noncomputable def Zh : List D → Option SV
  | [.str x, .int k] => if 2 ≤ k ∧ k ≤ 100 ∧ 0 < x.length ∧ x.length ≤ 1000 then some (.val (.str ⟨((List.replicate k.toNat x.cps.toList).flatten).toArray⟩)) else none
  | _ => none
noncomputable def Zi : List D → Option SV
  | [.str x] => if x.length ≤ 10000000 then yb x.length else none
  | _ => none
noncomputable def YH : List D → Option SV
  | [.str a, .str b] => if a.length + b.length ≤ 10000000 then some (.val (.str (a ++ b))) else none
  | _ => none
noncomputable def strs? : List D → Option (List Str)
  | [] => some []
  | .str x :: r => (strs? r).map (x :: ·)
  | _ => none
noncomputable def YI (ys : List Str) : Str := ⟨(ys.flatMap fun y => y.cps.toList).toArray⟩
noncomputable def YJ : List D → Option SV
  | [.lst l] => (strs? l).bind fun ys => if (ys.map (·.length)).sum ≤ 10000000 then some (.val (.str (YI ys))) else none
  | _ => none
noncomputable def vn : List Str → List Nat
  | [] => []
  | [y] => y.cps.toList
  | y :: r => y.cps.toList ++ 10 :: vn r
noncomputable def Zj : List D → Option SV
  | [.lst l] => (strs? l).bind fun ys => if (ys.map (·.length)).sum + ys.length ≤ 10000000 then some (.val (.str ⟨(vn ys).toArray⟩)) else none
  | _ => none
noncomputable def zt (c : Nat) : List Nat → List (List Nat)
  | [] => [[]]
  | a :: r => if a = c then [] :: zt c r else match zt c r with
    | p :: ps => (a :: p) :: ps
    | [] => [[a]]
noncomputable def yQ (x : Str) : List Str := (zt 10 x.cps.toList).map fun l => ⟨l.toArray⟩
noncomputable def wP : List D → Option SV
  | [.str x] => if x.length ≤ 10000000 then some (.obj true (.lst ((yQ x).map D.str))) else none
  | _ => none
noncomputable def jo : List D → Option SV
  | [.str a, .str b] => some (.val (.bl (decide (a = b))))
  | _ => none
noncomputable def YK : List D → Option SV
  | [.str a, .str b] => some (.val (.bl (!decide (a = b))))
  | _ => none
noncomputable def zdX : List D → Option SV
  | [.tup l] => some (SV.obj true (.lst l))
  | [.lst l] => some (SV.obj true (.lst l))
  | _ => none
noncomputable def Vz : List D → Option SV
  | [.tup l] => some (.val (.tup l))
  | [.lst l] => some (.val (.tup l))
  | _ => none
noncomputable def YL : List D → Option SV
  | [.lst l] => (bools? l).bind fun bs => ye (bs.all id)
  | _ => none
noncomputable def kS (t : Ty) : List D → Option SV
  | [d] => ye (wp t d)
  | _ => none
noncomputable def jp : List D → Option SV
  | [.lst l, .int k] => if 0 ≤ k then some (SV.obj true (.lst (l.take k.toNat))) else none
  | _ => none
noncomputable def YM : List D → Option SV
  | [.lst l] => (ints? l).bind fun ns => match ns with
    | [] => none
    | n :: r => yb (r.foldl max n)
  | _ => none
noncomputable def zdY : List D → Option SV
  | [.lst l] => (ints? l).bind fun ns => match ns with
    | [] => none
    | n :: r => yb (r.foldl min n)
  | _ => none
noncomputable def zdZ : List D → Option SV
  | [.lst l] => (ints? l).bind fun ns => yb ns.sum
  | [.tup l] => (ints? l).bind fun ns => yb ns.sum
  | _ => none
noncomputable def VA : List D → Option SV
  | [.int i] => yb i
  | [.bl b] => yb (if b then 1 else 0)
  | _ => none
noncomputable def prs? : List D → Option (List (List Int))
  | [] => some []
  | .tup [.tup [.int a, .int b], .tup [.int c, .int d]] :: r => (prs? r).map ([a, b, c, d] :: ·)
  | _ :: _ => none
noncomputable def zd0 : List Int → D
  | [a, b, c, d] => .tup [.tup [.int a, .int b], .tup [.int c, .int d]]
  | _ => .non
noncomputable def zd1 : List D → Option SV
  | [.lst l] => (prs? l).bind fun ks => if ks.length < 64 ∧ ks.Nodup then some (.obj true (.lst ((Za ks).map zd0))) else none
  | _ => none
noncomputable def zd2 : D → Option (Int × Int)
  | .tup [.int a, .int b] => if 0 ≤ a ∧ a ≤ 7 ∧ 0 ≤ b ∧ b ≤ 7 then some (a, b) else none
  | _ => none
noncomputable def VB : List D → Option (List (Int × Int))
  | [] => some []
  | d :: r => (zd2 d).bind fun c => (VB r).map (c :: ·)
noncomputable def Zk {α : Type} [DecidableEq α] : List α → List α
  | [] => []
  | c :: r => if c ∈ r then Zk r else c :: Zk r
noncomputable def kU : List D → Option (List Int)
  | [] => some []
  | .int i :: r => (kU r).map (i :: ·)
  | _ :: _ => none
noncomputable def zd3 : List D → Option SV
  | [.lst ds] => match VB ds with
    | some cs => some (.val (.int (Zk cs).length))
    | none => (kU ds).bind fun is => if is.length ≤ 1000 then some (.val (.int (Zk is).length)) else none
  | _ => none
noncomputable def zd4 : List D → Option SV
  | [.lst ds] => (VB ds).map fun cs => .obj true (.lst ((Za ((Zk cs).map fun c => [c.1, c.2])).map fun k => .tup (k.map .int)))
  | _ => none
noncomputable def zd5 (n : Nat) : Nat := if n = 0 then 0 else n.log2 + 1
noncomputable def zd6 : List D → Option SV
  | [.int a, .int n] => if 0 ≤ a ∧ a < 1048576 ∧ 0 ≤ n ∧ n < 64 then yb (a * 2 ^ n.toNat) else none
  | _ => none
noncomputable def zd7 : List D → Option SV
  | [.int a, .int n] => if 0 ≤ a ∧ 0 ≤ n ∧ n < 64 then yb ((a.toNat >>> n.toNat : Nat) : Int) else none
  | _ => none
noncomputable def zd8 : List D → Option SV
  | [.int a, .int b] => if 0 ≤ a ∧ 0 ≤ b then yb ((a.toNat &&& b.toNat : Nat) : Int) else none
  | _ => none
noncomputable def zd9 : List D → Option SV
  | [.int a, .int b] => if 0 ≤ a ∧ 0 ≤ b then yb ((a.toNat ||| b.toNat : Nat) : Int) else none
  | _ => none
noncomputable def zea : List D → Option SV
  | [.int a, .int b] => if 0 ≤ a ∧ 0 ≤ b then yb ((a.toNat ^^^ b.toNat : Nat) : Int) else none
  | _ => none
noncomputable def zeb : List D → Option SV
  | [.int a] => if 0 ≤ a then yb (zd5 a.toNat : Nat) else none
  | _ => none
noncomputable def zec : List D → Option SV
  | [.dct false ks vs, .int k, .int i] => match dget ks vs (.int k) with
    | some (.int v) => yb v
    | none => yb i
    | _ => none
  | _ => none
noncomputable def zb : Prim → List D → Option SV
  | .add => YA | .sub => Vv | .mul => YB | .fdiv => zdK | .mod => YC | .neg => Vw | .eq => Zb | .ne => Zc | .lt => Zd | .le => YD | .gt => YF | .ge => kO
  | .isN => kP | .notN => kQ | .inn => jl | .nin => YG | .idx => Vx | .len => Vy | .abs => zdL | .min2 => zdM | .max2 => zdN
  | .sorted => zdP | .sortP => zd1 | .skeys => zdR | .nset => zd3 | .sset => zd4 | .shl => zd6 | .shr => zd7 | .band => zd8 | .bor => zd9 | .bxor => zea | .blen => zeb | .dget => zec | .cutT => zdS | .cutF => zdT | .addT => zdU | .mulT => zdV | .mulL => zdW | .idxS => Ze | .cutTS => vH | .cutFS => Zf | .cutFL => Zg | .joinN => Zj | .inS => kR | .ninS => jm | .mulS => Zh | .lenS => Zi | .addS => YH | .join0 => YJ | .splitN => wP | .eqS => jo | .neS => YK | .toList => zdX | .toTup => Vz | .all => YL | .inst t => kS t | .cutTo => jp | .maxL => YM | .minL => zdY | .sumL => zdZ | .intOf => VA
noncomputable def yc : SV → Option Bool
  | .val (.bl b) => some b
  | .val (.int i) => some (i != 0)
  | .val .non => some false
  | .val (.tup l) => some (!l.isEmpty)
  | .val (.lst l) => some (!l.isEmpty)
  | .obj _ (.lst l) => some (!l.isEmpty)
  | _ => none
noncomputable def look (ρ : Env) (i : Nat) : Option SV := match ρ[i]? with
  | some (some (.val d)) => some (.val d)
  | some (some (.obj _ d)) => some (.obj false d)
  | some (some (.io d)) => some (.obj false d)
  | _ => none
noncomputable def free (ρ : Env) (i : Nat) : Bool := match ρ[i]? with
  | some (some (.io _)) => false
  | _ => true
noncomputable def SV.cell : SV → Option D
  | .obj true d => some d
  | .io d => some d
  | _ => none
noncomputable def SV.put : SV → D → SV
  | .io _, d => .io d
  | _, d => .obj true d
noncomputable def xt (j : Int) : Prop := -(2 ^ 62) ≤ j ∧ j < 2 ^ 62
noncomputable instance (j : Int) : Decidable (xt j) := by unfold xt; exact inferInstance
noncomputable def xh (x : Str) : List D := x.cps.toList.map fun c => D.str ⟨#[c]⟩
noncomputable def zU : Bool → List SV → Option (List D)
  | false, [r] => vG (zu r)
  | false, [.val (.lst l), .val .non] => some l.reverse
  | false, [.val (.str x), .val .non, .val .non] => if x.length ≤ 10000 then some (xh x) else none
  | true, [.val (.int n)] => if xt n then some ((List.range n.toNat).map fun (k : Nat) => D.int (0 + (k : Int))) else none
  | true, [.val (.int a), .val (.int b)] => if xt a ∧ xt b then some ((List.range (b - a).toNat).map fun (k : Nat) => D.int (a + (k : Int))) else none
  | _, _ => none
noncomputable def yH (test : D → Option Bool) (elt : D → Option SV) : List D → Option (List D)
  | [] => some []
  | d :: r => (test d).bind fun b => match b with
    | true => (elt d).bind fun x => (toD x).bind fun y => (yH test elt r).map (y :: ·)
    | false => yH test elt r
noncomputable def kW {α : Type} (p : D) (f : D → D → Option α) : Option α := match p with
  | .tup [a, b] => f a b
  | _ => none
noncomputable def zed : SV → Option (List D)
  | .val (.tup l) => some l
  | _ => none
noncomputable def yR : Nat → List D → List D
  | _, [] => []
  | k, d :: r => .tup [.int k, d] :: yR (k + 1) r
noncomputable def xO (rs : List SV) (r : Option SV) : Option SV := r.bind fun x => if rs.any SV.lent && !x.plain then none else some x
noncomputable def xi : List SV → Option (List D)
  | [] => some []
  | r :: rs => (toD r).bind fun d => (xi rs).map (d :: ·)
mutual
noncomputable def zf (fn : Nat → List D → Option SV) : E → Env → Option SV
  | .int i, _ => some (.val (.int i))
  | .bl b, _ => some (.val (.bl b))
  | .non, _ => some (.val .non)
  | .str x, _ => some (.val (.str x))
  | .var i, ρ => look ρ i
  | .prim p es, ρ => (zN fn es ρ).bind fun rs => zb p (rs.map zu)
  | .tup es, ρ => (zN fn es ρ).bind fun rs => (xi rs).map fun ds => .val (.tup ds)
  | .lst es, ρ => (zN fn es ρ).bind fun rs => (xi rs).map fun ds => SV.obj true (.lst ds)
  | .and a b, ρ => (zf fn a ρ).bind fun r => match r with
    | .val (.bl true) => zf fn b ρ
    | .val (.bl false) => some (.val (.bl false))
    | _ => none
  | .or a b, ρ => (zf fn a ρ).bind fun r => match r with
    | .val (.bl true) => some (.val (.bl true))
    | .val (.bl false) => zf fn b ρ
    | _ => none
  | .not a, ρ => (zf fn a ρ).bind fun r => match r with
    | .val (.bl b) => some (.val (.bl (!b)))
    | _ => none
  | .chain p q a b c, ρ => (zf fn a ρ).bind fun x => (zf fn b ρ).bind fun y => (zb p [zu x, zu y]).bind fun z => match z with
    | .val (.bl true) => (zf fn c ρ).bind fun w => zb q [zu y, zu w]
    | .val (.bl false) => some (.val (.bl false))
    | _ => none
  | .ite c a b, ρ => (zx fn c ρ).bind fun k => if k then zf fn a ρ else zf fn b ρ
  | .call f es, ρ => (zN fn es ρ).bind fun rs => xO rs (fn f (rs.map zu))
  | .dnew t, _ => some (.obj true (.dct t [] []))
  | .done t k v, ρ => (zf fn k ρ).bind fun x => (zf fn v ρ).bind fun y => (toD x).bind fun a => (toD y).bind fun b => if yP t a then some (.obj true (.dct t [a] [b])) else none
  | .comp rng src cond elt, ρ => (zN fn src ρ).bind fun rs => (zU rng rs).bind fun ds =>
    if ds.length ≤ line then (yH (fun d => zx fn cond (some (.val d) :: ρ)) (fun d => zf fn elt (some (.val d) :: ρ)) ds).map fun l => SV.obj true (.lst l) else none
  | .compE src cond elt, ρ => (zf fn src ρ).bind fun r => (zed r).bind fun ds =>
    if ds.length ≤ line then (yH (fun p => kW p fun a b => zx fn cond (some (.val a) :: some (.val b) :: ρ)) (fun p => kW p fun a b => zf fn elt (some (.val a) :: some (.val b) :: ρ)) (yR 0 ds)).map fun l => SV.obj true (.lst l) else none
noncomputable def zN (fn : Nat → List D → Option SV) : Es → Env → Option (List SV)
  | .nil, _ => some []
  | .cons e es, ρ => (zf fn e ρ).bind fun r => (zN fn es ρ).map (r :: ·)
noncomputable def zx (fn : Nat → List D → Option SV) : E → Env → Option Bool
  | .and a b, ρ => (zx fn a ρ).bind fun k => if k then zx fn b ρ else some false
  | .or a b, ρ => (zx fn a ρ).bind fun k => if k then some true else zx fn b ρ
  | .not a, ρ => (zx fn a ρ).map (!·)
  | .int i, _ => some (i != 0)
  | .bl b, _ => some b
  | .non, _ => some false
  | .str _, _ => none
  | .var i, ρ => (look ρ i).bind yc
  | .prim p es, ρ => (zN fn es ρ).bind fun rs => (zb p (rs.map zu)).bind yc
  | .tup _, _ => none
  | .lst _, _ => none
  | .chain p q a b c, ρ => (zf fn a ρ).bind fun x => (zf fn b ρ).bind fun y => (zb p [zu x, zu y]).bind fun z => match z with
    | .val (.bl true) => (zf fn c ρ).bind fun w => (zb q [zu y, zu w]).bind yc
    | .val (.bl false) => some false
    | _ => none
  | .ite _ _ _, _ => none
  | .call f es, ρ => (zN fn es ρ).bind fun rs => (xO rs (fn f (rs.map zu))).bind yc
  | .comp rng src cond elt, ρ => (zN fn src ρ).bind fun rs => (zU rng rs).bind fun ds =>
    if ds.length ≤ line then (yH (fun d => zx fn cond (some (.val d) :: ρ)) (fun d => zf fn elt (some (.val d) :: ρ)) ds).map fun l => !l.isEmpty else none
  | .dnew _, _ => none
  | .done _ _ _, _ => none
  | .compE _ _ _, _ => none
end
inductive Ans where
  | ok (r : SV) (outs : List D)
  | ex (c : Nat)
noncomputable def zA (fa : Nat → List D → Option Ans) (f : Nat) (ds : List D) : Option SV := match fa f ds with
  | some (.ok r []) => some r
  | _ => none
set_option genInjectivity false
inductive MA where
  | nil | e (c : E) (r : MA) | s (i : Nat) (r : MA) | n (t : Bool) (r : MA)
inductive AV where
  | e (d : D) | l (ds : List D) | s (i : Nat) (d : D) | n (t : Bool)
inductive M where
  | call (f : Nat) (ma : MA)
  | op (p : Prim) (a : E) (m : M)
set_option genInjectivity true
noncomputable def jq : D → Bool
  | .dct _ _ vs => yw vs
  | _ => false
noncomputable def SV.fine : SV → Bool
  | .val d => LW.plain d
  | .obj true d => xM d
  | _ => false
noncomputable def wq : SV → Option AV
  | .val (.lst ds) => if yw ds then some (.l ds) else none
  | .val d => if plain d then some (.e d) else none
  | .obj _ (.lst ds) => if yw ds then some (.l ds) else none
  | _ => none
noncomputable def Zl (ρ : Env) (i : Nat) : Option D := match ρ[i]? with
  | some (some x) => x.cell
  | _ => none
noncomputable def xY (fn : Nat → List D → Option SV) : MA → Env → Option (List AV)
  | .nil, _ => some []
  | .e c r, ρ => (zf fn c ρ).bind fun x => (wq x).bind fun a => (xY fn r ρ).map (a :: ·)
  | .s i r, ρ => (Zl ρ i).bind fun d => if jq d then (xY fn r ρ).map (.s i d :: ·) else none
  | .n t r, ρ => (xY fn r ρ).map (.n t :: ·)
noncomputable def jr : AV → D
  | .e d => d
  | .l ds => .lst ds
  | .s _ d => d
  | .n t => .dct t [] []
noncomputable def YN (ρ : Env) (i : Nat) (d : D) : Env := match ρ[i]? with
  | some (some x) => ρ.set i (some (x.put d))
  | _ => ρ
noncomputable def xj (ρ : Env) : List AV → List D → Option Env
  | [], [] => some ρ
  | .s i _ :: r, d :: ds => xj (YN ρ i d) r ds
  | .n _ :: r, _ :: ds => xj ρ r ds
  | .e _ :: r, ds => xj ρ r ds
  | .l _ :: r, ds => xj ρ r ds
  | _, _ => none
noncomputable def wC (fa : Nat → List D → Option Ans) : M → Env → Option (SV × Env)
  | .call f ma, ρ => (xY (zA fa) ma ρ).bind fun xs => (fa f (xs.map jr)).bind fun a => match a with
    | .ok r outs => if r.fine && outs.all xM then (xj ρ xs outs).map fun ρ' => (r, ρ') else none
    | .ex _ => none
  | .op p a m, ρ => (zf (zA fa) a ρ).bind fun x => match x with
    | .val d => if plain d then (wC fa m ρ).bind fun y => (zb p [d, zu y.1]).map fun z => (z, y.2) else none
    | _ => none
set_option genInjectivity false
mutual
inductive S where
  | expr (e : E) | asg (i : Nat) (e : E) | mov (i j : Nat) | app (i : Nat) (e : E) | dset (i : Nat) (k v : E) | dupd (i j : Nat) | unp3 (i j k : Nat) (e : E) | exprM (m : M) | asgM (i : Nat) (m : M) | ifO (c : E) (m : M) (a b : Ss) | ret (e : E) | retV (i : Nat) | retN
  | ifs (c : E) (a b : Ss) | for_ (i : Nat) (rng : Bool) (src : Es) (body : Ss) | forV (i j : Nat) (body : Ss) | forK (i j : Nat) (body : Ss) | forU (i j : Nat) (rng : Bool) (src : Es) (body : Ss) | forE (i j : Nat) (src : E) (body : Ss) | while_ (c : E) (body : Ss) | frz (js : List Nat) (s : S) | brk | cnt | pass | stop
inductive Ss where
  | nil | cons (s : S) (ss : Ss)
end
set_option genInjectivity true
inductive Fl where
  | nx | br | ct | rt (r : SV)
noncomputable def yq (i : Nat) (body : Env → Option (Fl × Env)) : List D → Env → Option (Fl × Env)
  | [], ρ => some (.nx, ρ)
  | d :: r, ρ => (body (ρ.set i (some (.val d)))).bind fun x => match x.1 with
    | .nx => yq i body r x.2
    | .ct => yq i body r x.2
    | .br => some (.nx, x.2)
    | .rt v => some (.rt v, x.2)
noncomputable def zee : D → Bool
  | .tup [.int a, .int b] => decide (0 ≤ a ∧ a ≤ 7 ∧ 0 ≤ b ∧ b ≤ 7)
  | _ => false
noncomputable def VC (ks vs : List D) : List D → List D → List D × List D
  | k :: ks2, v :: vs2 => match jk true ks vs k v with
    | .dct _ a b => VC a b ks2 vs2
    | _ => (ks, vs)
  | _, _ => (ks, vs)
noncomputable def zef (ρ : Env) (i : Nat) (x : SV) : Option D → Option D → Option (Fl × Env)
  | some (.dct true ks vs), some (.dct true ks2 vs2) => if ks2.all zee && decide (ks.length + ks2.length < line) then some (.nx, ρ.set i (some (x.put (.dct true (VC ks vs ks2 vs2).1 (VC ks vs ks2 vs2).2)))) else none
  | _, _ => none
noncomputable def kX (ρ : Env) (i j : Nat) : Option (Fl × Env) := if i = j then none else match ρ[i]? with
  | some (some x) => zef ρ i x x.cell (Zl ρ j)
  | _ => none
noncomputable def kY (ρ : Env) (i j k : Nat) : SV → Option (Fl × Env)
  | .obj true (.lst [a, b, c]) => if free ρ i && free ρ j && free ρ k then some (.nx, ((ρ.set i (some (.val a))).set j (some (.val b))).set k (some (.val c))) else none
  | _ => none
noncomputable def wQ : SV → Option (List D)
  | .obj true (.lst l) => some (yR 0 l)
  | .val (.str x) => some (yR 0 (xh x))
  | _ => none
noncomputable def xB (i j : Nat) (body : Env → Option (Fl × Env)) : List D → Env → Option (Fl × Env)
  | [], ρ => some (.nx, ρ)
  | .tup [a, b] :: r, ρ => (body ((ρ.set i (some (.val a))).set j (some (.val b)))).bind fun x => match x.1 with
    | .nx => xB i j body r x.2
    | .ct => xB i j body r x.2
    | .br => some (.nx, x.2)
    | .rt v => some (.rt v, x.2)
  | _, _ => none
noncomputable def VD (test : Env → Option Bool) (body : Env → Option (Fl × Env)) : Nat → Env → Option (Fl × Env)
  | 0, _ => none
  | n + 1, ρ => (test ρ).bind fun b => if b then (body ρ).bind fun x => (match x.1 with
    | .nx => VD test body n x.2
    | .ct => VD test body n x.2
    | .br => some (.nx, x.2)
    | .rt v => some (.rt v, x.2)) else some (.nx, ρ)
noncomputable def VE (ρ : Env) (j : Nat) : Option (List D × Env) := match ρ[j]? with
  | some (some (.val d)) => (vG d).map fun l => (l, ρ)
  | some (some (.obj _ (.lst ds))) => some (ds, ρ.set j (some (.val (.lst ds))))
  | _ => none
noncomputable def zeg (ρ : Env) (j : Nat) : Option (List D) := match ρ[j]? with
  | some (some (.val (.dct false ks _))) => some ks
  | _ => none
noncomputable def kZ : Fl × Env → Option (Fl × Env)
  | (.nx, ρ) => some (.nx, ρ)
  | _ => none
noncomputable def YO (ρ : Env) (j : Nat) : Env := match ρ[j]? with
  | some (some (.obj true d)) => ρ.set j (some (.val d))
  | _ => ρ
mutual
noncomputable def zH (fa : Nat → List D → Option Ans) (fuel : Nat) : S → Env → Option (Fl × Env)
  | .expr e, ρ => (zf (zA fa) e ρ).map fun _ => (.nx, ρ)
  | .asg i e, ρ => (zf (zA fa) e ρ).bind fun r => if r.lent || !free ρ i then none else some (.nx, ρ.set i (some r))
  | .mov i j, ρ => if free ρ i then (match ρ[j]? with
    | some (some (.val d)) => some (.nx, ρ.set i (some (.val d)))
    | some (some (.obj _ d)) => some (.nx, (ρ.set j (some (.val d))).set i (some (.val d)))
    | _ => none) else none
  | .app i e, ρ => match ρ[i]? with
    | some (some x) => (match x.cell with
      | some (.lst ds) => (zf (zA fa) e ρ).bind fun r => (toD r).bind fun d => if ds.length < line then some (.nx, ρ.set i (some (x.put (.lst (ds ++ [d]))))) else none
      | _ => none)
    | _ => none
  | .dupd i j, ρ => kX ρ i j
  | .unp3 i j k e, ρ => (zf (zA fa) e ρ).bind (kY ρ i j k)
  | .dset i k v, ρ => match ρ[i]? with
    | some (some x) => (match x.cell with
      | some (.dct t ks vs) => (zf (zA fa) v ρ).bind fun r => (toD r).bind fun d => (zf (zA fa) k ρ).bind fun r => (toD r).bind fun a => if yP t a && decide (ks.length < line) then some (.nx, ρ.set i (some (x.put (jk t ks vs a d)))) else none
      | _ => none)
    | _ => none
  | .exprM m, ρ => (wC fa m ρ).map fun x => (.nx, x.2)
  | .asgM i m, ρ => (wC fa m ρ).bind fun x => if x.1.lent || !free x.2 i then none else some (.nx, x.2.set i (some (.val (zu x.1))))
  | .ifO c m a b, ρ => (zx (zA fa) c ρ).bind fun k => if k then zv fa fuel a ρ else (wC fa m ρ).bind fun x => (yc x.1).bind fun k => if k then zv fa fuel a x.2 else zv fa fuel b x.2
  | .ret e, ρ => (zf (zA fa) e ρ).bind fun r => if r.lent then none else some (.rt r, ρ)
  | .retV i, ρ => match ρ[i]? with
    | some (some (.val d)) => some (.rt (.val d), ρ)
    | some (some (.obj _ d)) => some (.rt (.obj true d), ρ.set i none)
    | _ => none
  | .retN, ρ => some (.rt (.val .non), ρ)
  | .ifs c a b, ρ => (zx (zA fa) c ρ).bind fun k => if k then zv fa fuel a ρ else zv fa fuel b ρ
  | .for_ i rng src body, ρ => (zN (zA fa) src ρ).bind fun rs => if rs.any SV.lent || !free ρ i then none else (zU rng rs).bind fun ds => yq i (zv fa fuel body) ds ρ
  | .forV i j body, ρ => if free ρ i then (VE ρ j).bind fun x => yq i (zv fa fuel body) x.1 x.2 else none
  | .forK i j body, ρ => if free ρ i then (zeg ρ j).bind fun ks => (yq i (zv fa fuel body) ks ρ).bind kZ else none
  | .forU i j rng src body, ρ => (zN (zA fa) src ρ).bind fun rs => if rs.any SV.lent || !free ρ i || !free ρ j then none else (zU rng rs).bind fun ds => xB i j (zv fa fuel body) ds ρ
  | .forE i j src body, ρ => (zf (zA fa) src ρ).bind fun r => if !free ρ i || !free ρ j then none else (wQ r).bind fun ds => xB i j (zv fa fuel body) ds ρ
  | .while_ c body, ρ => VD (zx (zA fa) c) (zv fa fuel body) fuel ρ
  | .frz js s, ρ => zH fa fuel s (js.foldl YO ρ)
  | .brk, ρ => some (.br, ρ)
  | .cnt, ρ => some (.ct, ρ)
  | .pass, ρ => some (.nx, ρ)
  | .stop, _ => none
noncomputable def zv (fa : Nat → List D → Option Ans) (fuel : Nat) : Ss → Env → Option (Fl × Env)
  | .nil, ρ => some (.nx, ρ)
  | .cons s ss, ρ => (zH fa fuel s ρ).bind fun x => match x.1 with
    | .nx => zv fa fuel ss x.2
    | _ => some x
end
inductive Hd where
  | ret (ks : List Nat) | two (i n : Nat) (ks ks2 : List Nat) | kin (ks : List Nat) | tru
mutual
inductive T where
  | pl (s : S) | raise (c : Nat) | raiseF (c k : Nat) | callX (i : Nat) (es : Es) | retX (i : Nat) (es : Es) | asgX (k i : Nat) (es : Es) | ifX (neg : Bool) (i : Nat) (es : Es) (a b : Ts) | ifs (c : E) (a b : Ts) | tryX (b : Ts) (k : Nat) (cs : List Nat) (h : Hd) | stuck
inductive Ts where
  | nil | cons (t : T) (ts : Ts)
end
inductive FlX where
  | fl (f : Fl) | ex (c : Nat)
noncomputable def YQ (c k : Nat) : Bool := k == c || k == 0 || k == 7
noncomputable def wr (fa : Nat → List D → Option Ans) (i : Nat) (es : Es) (ρ : Env) : Option Ans := (zN (zA fa) es ρ).bind fun rs => if rs.any SV.lent then none else fa i (rs.map zu)
noncomputable def zeh : Option SV → Bool
  | some (.io _) => false
  | _ => true
noncomputable def Zm (c : Nat) (ρ : Env) : Hd → Option (FlX × Env)
  | .ret ks => if ks.all (YQ c) then some (.fl (.rt (.obj true (.lst (ks.map fun _ => .bl true)))), ρ) else none
  | .two i n ks ks2 => if ρ.all zeh then some (.fl .nx, (List.replicate n none).set i (some (.obj true (.lst ((ks ++ ks2).map fun x => .bl (x == c)))))) else none
  | .kin ks => some (.fl (.rt (.obj true (.lst (ks.map fun x => .bl (x == 7 || x == c))))), ρ)
  | .tru => some (.fl (.rt (.val (.bl true))), ρ)
mutual
noncomputable def zY (fa : Nat → List D → Option Ans) (fuel : Nat) : T → Env → Option (FlX × Env)
  | .pl s, ρ => (zH fa fuel s ρ).map fun x => (.fl x.1, x.2)
  | .raise c, ρ => some (.ex c, ρ)
  | .raiseF c k, ρ => match look ρ k with
    | some (.val (.int i)) => if 0 ≤ i ∧ i < 1000 then some (.ex c, ρ) else none
    | _ => none
  | .callX i es, ρ => (wr fa i es ρ).bind fun a => match a with
    | .ok _ [] => some (.fl .nx, ρ)
    | .ex c => some (.ex c, ρ)
    | _ => none
  | .retX i es, ρ => (wr fa i es ρ).bind fun a => match a with
    | .ok r [] => if r.lent then none else some (.fl (.rt r), ρ)
    | .ex c => some (.ex c, ρ)
    | _ => none
  | .asgX k i es, ρ => (wr fa i es ρ).bind fun a => match a with
    | .ok r [] => if r.lent || !free ρ k then none else some (.fl .nx, ρ.set k (some r))
    | .ex c => some (.ex c, ρ)
    | _ => none
  | .ifX neg i es a b, ρ => (wr fa i es ρ).bind fun x => match x with
    | .ok (.val (.bl k)) [] => if k != neg then zS fa fuel a ρ else zS fa fuel b ρ
    | .ex c => some (.ex c, ρ)
    | _ => none
  | .ifs c a b, ρ => (zx (zA fa) c ρ).bind fun k => if k then zS fa fuel a ρ else zS fa fuel b ρ
  | .tryX b k cs h, ρ => (zS fa fuel b ρ).bind fun x => match x.1 with
    | .fl _ => some x
    | .ex c => if cs.contains c then Zm c x.2 h else none
  | .stuck, _ => none
noncomputable def zS (fa : Nat → List D → Option Ans) (fuel : Nat) : Ts → Env → Option (FlX × Env)
  | .nil, ρ => some (.fl .nx, ρ)
  | .cons t ts, ρ => (zY fa fuel t ρ).bind fun x => match x.1 with
    | .fl .nx => zS fa fuel ts x.2
    | _ => some x
end
structure Fn where
  np : Nat
  nl : Nat
  body : Ss
  io : List Nat := []
  xb : Option Ts := none
noncomputable def wR : Option (FlX × Env) → Option Ans
  | some (.fl (.rt r), _) => some (.ok r [])
  | some (.fl .nx, _) => some (.ok (.val .non) [])
  | some (.ex c, _) => some (.ex c)
  | _ => none
noncomputable def xP (ρ : Env) : List Nat → Option (List D)
  | [] => some []
  | i :: r => match ρ[i]? with
    | some (some (.io d)) => (xP ρ r).map (d :: ·)
    | _ => none
noncomputable def vI (io : List Nat) : Option (Fl × Env) → Option Ans
  | some (.rt r, ρ) => (xP ρ io).map (Ans.ok r)
  | some (.nx, ρ) => (xP ρ io).map (Ans.ok (.val .non))
  | _ => none
noncomputable def xk (io : List Nat) : Nat → List D → Env
  | _, [] => []
  | k, d :: r => some (if io.contains k then .io d else .val d) :: xk io (k + 1) r
noncomputable def zn (P : Nat → Option Fn) (fuel : Nat) : Nat → Nat → List D → Option Ans
  | 0, _, _ => none
  | n + 1, f, ds => (P f).bind fun F => if ds.length = F.np then (match F.xb with
    | none => vI F.io (zv (zn P fuel n) fuel F.body (xk F.io 0 ds ++ List.replicate (F.nl - F.np) none))
    | some t => wR (zS (zn P fuel n) fuel t (xk [] 0 ds ++ List.replicate (F.nl - F.np) none))) else none
noncomputable def zQ (P : Nat → Option Fn) (fuel n : Nat) : Nat → List D → Option SV := zA (zn P fuel n)
theorem qa {fn i ρ} : zf fn (E.int i) ρ = (some (.val (.int i))) := id rfl
theorem zei {fn b ρ} : zf fn (E.bl b) ρ = (some (.val (.bl b))) := id rfl
theorem zej {fn  ρ} : zf fn (E.non) ρ = (some (.val .non)) := id rfl
theorem zek {fn x ρ} : zf fn (E.str x) ρ = (some (.val (.str x))) := id rfl
theorem zel {fn i ρ} : zf fn (E.var i) ρ = (look ρ i) := id rfl
theorem xE {fn p es ρ} : zf fn (E.prim p es) ρ = ((zN fn es ρ).bind fun rs => zb p (rs.map zu)) := id rfl
theorem zem {fn es ρ} : zf fn (E.tup es) ρ = ((zN fn es ρ).bind fun rs => (xi rs).map fun ds => .val (.tup ds)) := id rfl
theorem zen {fn es ρ} : zf fn (E.lst es) ρ = ((zN fn es ρ).bind fun rs => (xi rs).map fun ds => SV.obj true (.lst ds)) := id rfl
theorem zeo {fn a b ρ} : zf fn (E.and a b) ρ = ((zf fn a ρ).bind fun r => match r with
    | .val (.bl true) => zf fn b ρ
    | .val (.bl false) => some (.val (.bl false))
    | _ => none) := id rfl
theorem zep {fn p q a b c ρ} : zf fn (E.chain p q a b c) ρ = ((zf fn a ρ).bind fun x => (zf fn b ρ).bind fun y => (zb p [zu x, zu y]).bind fun z => match z with
    | .val (.bl true) => (zf fn c ρ).bind fun w => zb q [zu y, zu w]
    | .val (.bl false) => some (.val (.bl false))
    | _ => none) := id rfl
theorem zeq {fn c a b ρ} : zf fn (E.ite c a b) ρ = ((zx fn c ρ).bind fun k => if k then zf fn a ρ else zf fn b ρ) := id rfl
theorem qb {fn f es ρ} : zf fn (E.call f es) ρ = ((zN fn es ρ).bind fun rs => xO rs (fn f (rs.map zu))) := id rfl
theorem VF {fn rng src cond elt ρ} : zf fn (E.comp rng src cond elt) ρ = ((zN fn src ρ).bind fun rs => (zU rng rs).bind fun ds =>
    if ds.length ≤ line then (yH (fun d => zx fn cond (some (.val d) :: ρ)) (fun d => zf fn elt (some (.val d) :: ρ)) ds).map fun l => SV.obj true (.lst l) else none) := id rfl
theorem yW {fn  ρ} : zN fn (Es.nil) ρ = (some []) := id rfl
theorem yX {fn e es ρ} : zN fn (Es.cons e es) ρ = ((zf fn e ρ).bind fun r => (zN fn es ρ).map (r :: ·)) := id rfl
theorem zer {fn a b ρ} : zx fn (E.or a b) ρ = ((zx fn a ρ).bind fun k => if k then some true else zx fn b ρ) := id rfl
theorem zes {fn a ρ} : zx fn (E.not a) ρ = ((zx fn a ρ).map (!·)) := id rfl
theorem zet {fn b ρ} : zx fn (E.bl b) ρ = (some b) := id rfl
theorem VG {fn p es ρ} : zx fn (E.prim p es) ρ = ((zN fn es ρ).bind fun rs => (zb p (rs.map zu)).bind yc) := id rfl
theorem zeu {fn p q a b c ρ} : zx fn (E.chain p q a b c) ρ = ((zf fn a ρ).bind fun x => (zf fn b ρ).bind fun y => (zb p [zu x, zu y]).bind fun z => match z with
    | .val (.bl true) => (zf fn c ρ).bind fun w => (zb q [zu y, zu w]).bind yc
    | .val (.bl false) => some false
    | _ => none) := id rfl
theorem zev {fn f es ρ} : zx fn (E.call f es) ρ = ((zN fn es ρ).bind fun rs => (xO rs (fn f (rs.map zu))).bind yc) := id rfl
theorem qc {fn rng src cond elt ρ} : zx fn (E.comp rng src cond elt) ρ = ((zN fn src ρ).bind fun rs => (zU rng rs).bind fun ds =>
    if ds.length ≤ line then (yH (fun d => zx fn cond (some (.val d) :: ρ)) (fun d => zf fn elt (some (.val d) :: ρ)) ds).map fun l => !l.isEmpty else none) := id rfl
theorem zew {fa fuel e ρ} : zH fa fuel (S.expr e) ρ = ((zf (zA fa) e ρ).map fun _ => (.nx, ρ)) := id rfl
theorem zex {fa fuel i e ρ} : zH fa fuel (S.asg i e) ρ = ((zf (zA fa) e ρ).bind fun r => if r.lent || !free ρ i then none else some (.nx, ρ.set i (some r))) := id rfl
theorem zey {fa fuel i j ρ} : zH fa fuel (S.mov i j) ρ = (if free ρ i then (match ρ[j]? with
    | some (some (.val d)) => some (.nx, ρ.set i (some (.val d)))
    | some (some (.obj _ d)) => some (.nx, (ρ.set j (some (.val d))).set i (some (.val d)))
    | _ => none) else none) := id rfl
theorem qd {fa fuel i e ρ} : zH fa fuel (S.app i e) ρ = (match ρ[i]? with
    | some (some x) => (match x.cell with
      | some (.lst ds) => (zf (zA fa) e ρ).bind fun r => (toD r).bind fun d => if ds.length < line then some (.nx, ρ.set i (some (x.put (.lst (ds ++ [d]))))) else none
      | _ => none)
    | _ => none) := id rfl
theorem zez {fa fuel i k v ρ} : zH fa fuel (S.dset i k v) ρ = (match ρ[i]? with
    | some (some x) => (match x.cell with
      | some (.dct t ks vs) => (zf (zA fa) v ρ).bind fun r => (toD r).bind fun d => (zf (zA fa) k ρ).bind fun r => (toD r).bind fun a => if yP t a && decide (ks.length < line) then some (.nx, ρ.set i (some (x.put (jk t ks vs a d)))) else none
      | _ => none)
    | _ => none) := id rfl
theorem zeA {fa fuel e ρ} : zH fa fuel (S.ret e) ρ = ((zf (zA fa) e ρ).bind fun r => if r.lent then none else some (.rt r, ρ)) := id rfl
theorem qe {fa fuel i ρ} : zH fa fuel (S.retV i) ρ = (match ρ[i]? with
    | some (some (.val d)) => some (.rt (.val d), ρ)
    | some (some (.obj _ d)) => some (.rt (.obj true d), ρ.set i none)
    | _ => none) := id rfl
theorem zeB {fa fuel c a b ρ} : zH fa fuel (S.ifs c a b) ρ = ((zx (zA fa) c ρ).bind fun k => if k then zv fa fuel a ρ else zv fa fuel b ρ) := id rfl
theorem zeC {fa fuel i rng src body ρ} : zH fa fuel (S.for_ i rng src body) ρ = ((zN (zA fa) src ρ).bind fun rs => if rs.any SV.lent || !free ρ i then none else (zU rng rs).bind fun ds => yq i (zv fa fuel body) ds ρ) := id rfl
theorem zeD {fa fuel i j src body ρ} : zH fa fuel (S.forE i j src body) ρ = ((zf (zA fa) src ρ).bind fun r => if !free ρ i || !free ρ j then none else (wQ r).bind fun ds => xB i j (zv fa fuel body) ds ρ) := id rfl
theorem zeE {fa fuel  ρ} : zH fa fuel (S.stop) ρ = (none) := id rfl
theorem zeF {fa fuel  ρ} : zv fa fuel (Ss.nil) ρ = (some (.nx, ρ)) := id rfl
theorem zeG {fa fuel s ss ρ} : zv fa fuel (Ss.cons s ss) ρ = ((zH fa fuel s ρ).bind fun x => match x.1 with
    | .nx => zv fa fuel ss x.2
    | _ => some x) := id rfl
theorem xQ {α : Type} {P : List α → Prop} (h : ∀ a0, P [a0]) (us : List α) (hl : us.length = 1) : P us := by
  cases us with
  | nil => cases hl
  | cons a0 r0 =>
    cases r0 with
    | nil => exact h a0
    | cons _ _ => simp at hl
theorem qf {α : Type} {P : List α → Prop} (h : ∀ a0 a1, P [a0, a1]) (us : List α) (hl : us.length = 2) : P us := by
  cases us with
  | nil => cases hl
  | cons a0 r0 =>
    cases r0 with
    | nil => cases hl
    | cons a1 r1 =>
      cases r1 with
      | nil => exact h a0 a1
      | cons _ _ => simp at hl
theorem YR {α : Type} {P : List α → Prop} (h : ∀ a0 a1 a2, P [a0, a1, a2]) (us : List α) (hl : us.length = 3) : P us := by
  cases us with
  | nil => cases hl
  | cons a0 r0 =>
    cases r0 with
    | nil => cases hl
    | cons a1 r1 =>
      cases r1 with
      | nil => cases hl
      | cons a2 r2 =>
        cases r2 with
        | nil => exact h a0 a1 a2
        | cons _ _ => simp at hl
end L2.LW
set_option maxHeartbeats 4000000
namespace L2.LW
open PySem PySem.Spec PyProof.Rows
noncomputable def VH (K : PySem.W.Frag) (a : Addr) (xs : List V) : Prop :=
  ∃ (o : Obj) (its : Array Value) (n : Nat), K.lookup a = some o ∧ o.cls = .type "list" ∧ o.dict = Option.none ∧ o.data = .seq its n ∧ its.size ≤ sizeLine ∧ Vals xs its.toList
noncomputable def vJ (ns : List Int) (ys : List V) : List (zG × V) := (ns.map Sum.inl).zip ys
noncomputable def vK (ns : List (List Int)) (ys : List V) : List (List zG × V) := (ns.map fun l => l.map Sum.inl).zip ys
noncomputable def kT (l : List Int) : D := .tup (l.map D.int)
mutual
inductive Rep (K : PySem.W.Frag) (W : Addr → Prop) (H : Hp) : D → V → Prop where
  | int (i : Int) : Rep K W H (.int i) (.int i)
  | bl (b : Bool) : Rep K W H (.bl b) (.bl b)
  | non : Rep K W H .non .non
  | str (x : Str) : Rep K W H (.str x) (.str x)
  | tup {a : Addr} {xs : List V} {ds : List D} (h : H a = some (.tup xs)) (r : Reps K W H ds xs) : Rep K W H (.tup ds) (.ref a)
  | lst {a : Addr} {xs : List V} {ds : List D} (h : (¬ W a ∧ Rd H a (.lst xs)) ∨ VH K a xs) (r : Reps K W H ds xs) : Rep K W H (.lst ds) (.ref a)
  | dK {a : Addr} {ns : List Int} {ys : List V} {vs : List D} (n : ¬ W a) (h : Rd H a (.dK (vJ ns ys))) (l : ns.length = ys.length) (r : Reps K W H vs ys) : Rep K W H (.dct false (ns.map D.int) vs) (.ref a)
  | dT {a : Addr} {ns : List (List Int)} {ys : List V} {vs : List D} (n : ¬ W a) (h : H a = some (.dT (vK ns ys))) (l : ns.length = ys.length) (r : Reps K W H vs ys) : Rep K W H (.dct true (ns.map kT) vs) (.ref a)
inductive Reps (K : PySem.W.Frag) (W : Addr → Prop) (H : Hp) : List D → List V → Prop where
  | nil : Reps K W H [] []
  | cons {d : D} {v : V} {ds : List D} {vs : List V} (h : Rep K W H d v) (t : Reps K W H ds vs) : Reps K W H (d :: ds) (v :: vs)
end
inductive ORep (K : PySem.W.Frag) (W : Addr → Prop) (H : Hp) : D → HO → Prop where
  | lst {xs : List V} {ds : List D} (r : Reps K W H ds xs) : ORep K W H (.lst ds) (.lst xs)
  | dK {ns : List Int} {ys : List V} {vs : List D} (l : ns.length = ys.length) (r : Reps K W H vs ys) : ORep K W H (.dct false (ns.map D.int) vs) (.dK (vJ ns ys))
  | dT {ns : List (List Int)} {ys : List V} {vs : List D} (l : ns.length = ys.length) (r : Reps K W H vs ys) : ORep K W H (.dct true (ns.map kT) vs) (.dT (vK ns ys))
structure Ext (W : Addr → Prop) (H : Hp) (W' : Addr → Prop) (H' : Hp) : Prop where
  keep : ∀ a o, H a = some o → ¬ W a → H' a = some o
  tup : ∀ a xs, H a = some (.tup xs) → H' a = some (.tup xs)
  frz : ∀ a o u, H a = some (.frz o u) → H' a = some (.frz o u)
  win : ∀ a, W' a → W a ∨ H a = Option.none
theorem Ext.refl (W : Addr → Prop) (H : Hp) : Ext W H W H := ⟨fun _ _ h _ => h, fun _ _ h => h, fun _ _ _ h => h, fun _ h => .inl h⟩
theorem Ext.out {W W' : Addr → Prop} {H H' : Hp} (x : Ext W H W' H') {a : Addr} {o : HO} (h : H a = some o) (n : ¬ W a) : ¬ W' a := fun w => by
  rcases x.win a w with q | q
  · exact n q
  · rw [h] at q; cases q
theorem zeH {W W' : Addr → Prop} {H H' : Hp} (x : Ext W H W' H') {a : Addr} {u : HO} (h : Rd H a u) (n : ¬ W a) : Rd H' a u := by
  rcases h with h | ⟨o, h⟩
  · exact .inl (x.keep _ _ h n)
  · exact .inr ⟨o, x.keep _ _ h n⟩
theorem zeI {W W' : Addr → Prop} {H H' : Hp} (x : Ext W H W' H') {a : Addr} {u : HO} (h : Rd H a u) (n : ¬ W a) : ¬ W' a := by
  rcases h with h | ⟨o, h⟩
  · exact x.out h n
  · exact x.out h n
theorem Ext.trans {W W1 W2 : Addr → Prop} {H H1 H2 : Hp} (x : Ext W H W1 H1) (y : Ext W1 H1 W2 H2) : Ext W H W2 H2 := by
  refine ⟨fun a o h n => y.keep a o (x.keep a o h n) (x.out h n), fun a xs h => y.tup a xs (x.tup a xs h), fun a o u h => y.frz a o u (x.frz a o u h), fun a w => ?_⟩
  rcases y.win a w with q | q
  · exact x.win a q
  · cases e : H a with
    | none => exact .inr rfl
    | some o =>
      by_cases hw : W a
      · exact .inl hw
      · rw [x.keep a o e hw] at q; cases q
theorem Ext.same {W : Addr → Prop} {H H' : Hp} (s : Same H H') : Ext W H W H' := ⟨fun a o h _ => s a o h, fun a xs h => s a _ h, fun a o u h => s a _ h, fun _ w => .inl w⟩
section
variable {K : PySem.W.Frag} {W W' : Addr → Prop} {H H' : Hp}
mutual
theorem Rep.ext (x : Ext W H W' H') : ∀ {d : D} {v : V}, Rep K W H d v → Rep K W' H' d v
  | _, _, .int i => .int i
  | _, _, .bl b => .bl b
  | _, _, .non => .non
  | _, _, .str s => .str s
  | _, _, .dK n h l r => .dK (zeI x h n) (zeH x h n) l (Reps.ext x r)
  | _, _, .dT n h l r => .dT (x.out h n) (x.keep _ _ h n) l (Reps.ext x r)
  | _, _, .tup h r => .tup (x.tup _ _ h) (Reps.ext x r)
  | _, _, .lst h r => .lst (by
      rcases h with ⟨n, h | ⟨o, h⟩⟩ | h
      · exact .inl ⟨x.out h n, .inl (x.keep _ _ h n)⟩
      · exact .inl ⟨x.out h n, .inr ⟨o, x.keep _ _ h n⟩⟩
      · exact .inr h) (Reps.ext x r)
theorem Reps.ext (x : Ext W H W' H') : ∀ {ds : List D} {vs : List V}, Reps K W H ds vs → Reps K W' H' ds vs
  | _, _, .nil => .nil
  | _, _, .cons h t => .cons (Rep.ext x h) (Reps.ext x t)
end
mutual
theorem Rep.less (x : ∀ a, W' a → W a) : ∀ {d : D} {v : V}, Rep K W H d v → Rep K W' H d v
  | _, _, .int i => .int i
  | _, _, .bl b => .bl b
  | _, _, .non => .non
  | _, _, .str s => .str s
  | _, _, .dK n h l r => .dK (fun w => n (x _ w)) h l (Reps.less x r)
  | _, _, .dT n h l r => .dT (fun w => n (x _ w)) h l (Reps.less x r)
  | _, _, .tup h r => .tup h (Reps.less x r)
  | _, _, .lst h r => .lst (by
      rcases h with ⟨n, h⟩ | h
      · exact .inl ⟨fun w => n (x _ w), h⟩
      · exact .inr h) (Reps.less x r)
theorem Reps.less (x : ∀ a, W' a → W a) : ∀ {ds : List D} {vs : List V}, Reps K W H ds vs → Reps K W' H ds vs
  | _, _, .nil => .nil
  | _, _, .cons h t => .cons (Rep.less x h) (Reps.less x t)
end
mutual
theorem Rep.plain : ∀ {d : D} {v : V}, Rep K W H d v → LW.plain d = true → Rep K W' H d v
  | _, _, .int i, _ => .int i
  | _, _, .bl b, _ => .bl b
  | _, _, .non, _ => .non
  | _, _, .str s, _ => .str s
  | _, _, .tup h r, p => .tup h (Reps.plain r (by simpa [LW.plain] using p))
  | _, _, .lst h r, p => by simp [LW.plain] at p
  | _, _, .dK _ _ _ _, p => by simp [LW.plain] at p
  | _, _, .dT _ _ _ _, p => by simp [LW.plain] at p
theorem Reps.plain : ∀ {ds : List D} {vs : List V}, Reps K W H ds vs → yw ds = true → Reps K W' H ds vs
  | _, _, .nil, _ => .nil
  | _, _, .cons h t, p => by
    simp only [yw, Bool.and_eq_true] at p
    exact .cons (Rep.plain h p.1) (Reps.plain t p.2)
end
theorem Reps.length : ∀ {ds : List D} {vs : List V}, Reps K W H ds vs → ds.length = vs.length
  | _, _, .nil => rfl
  | _, _, .cons _ t => by simp [Reps.length t]
theorem Reps.get : ∀ {ds : List D} {vs : List V} {i : Nat} {d : D}, Reps K W H ds vs → ds[i]? = some d → ∃ v, vs[i]? = some v ∧ Rep K W H d v
  | _, _, _, _, .nil, e => by simp at e
  | _, _, 0, _, .cons h _, e => by simp at e; subst e; exact ⟨_, rfl, h⟩
  | _, _, i + 1, d, .cons _ t, e => by
    obtain ⟨v, h1, h2⟩ := Reps.get (i := i) (d := d) t (by simpa using e)
    exact ⟨v, by simpa using h1, h2⟩
theorem Reps.append : ∀ {ds es : List D} {vs us : List V}, Reps K W H ds vs → Reps K W H es us → Reps K W H (ds ++ es) (vs ++ us)
  | _, _, _, _, .nil, s => s
  | _, _, _, _, .cons h t, s => .cons h (Reps.append t s)
theorem Reps.take : ∀ {ds : List D} {vs : List V} (n : Nat), Reps K W H ds vs → Reps K W H (ds.take n) (vs.take n)
  | _, _, 0, _ => .nil
  | _, _, _ + 1, .nil => .nil
  | _, _, n + 1, .cons h t => .cons h (Reps.take n t)
theorem Reps.drop : ∀ {ds : List D} {vs : List V} (n : Nat), Reps K W H ds vs → Reps K W H (ds.drop n) (vs.drop n)
  | _, _, 0, r => r
  | _, _, _ + 1, .nil => .nil
  | _, _, n + 1, .cons _ t => Reps.drop n t
theorem Reps.ints : ∀ (ns : List Int), Reps K W H (ns.map D.int) (ns.map V.int)
  | [] => .nil
  | i :: r => .cons (.int i) (Reps.ints r)
theorem Reps.ofInts : ∀ {ds : List D} {vs : List V} {ns : List Int}, Reps K W H ds vs → ints? ds = some ns → vs = ns.map V.int
  | _, _, ns, .nil, e => by simp [ints?] at e; subst e; rfl
  | _, _, ns, .cons (d := d) h t, e => by
    cases h with
    | int i =>
      simp only [ints?, jo2] at e
      obtain ⟨ms, e1, rfl⟩ := e
      rw [Reps.ofInts t e1]; rfl
    | _ => simp [ints?] at e
theorem ORep.ext {d : D} {o : HO} (h : ORep K W H d o) (x : Ext W H W' H') : ORep K W' H' d o := by
  cases h with
  | lst r => exact .lst (r.ext x)
  | dK l r => exact .dK l (r.ext x)
  | dT l r => exact .dT l (r.ext x)
theorem ORep.less {d : D} {o : HO} (h : ORep K W H d o) (x : ∀ a, W' a → W a) : ORep K W' H d o := by
  cases h with
  | lst r => exact .lst (r.less x)
  | dK l r => exact .dK l (r.less x)
  | dT l r => exact .dT l (r.less x)
theorem ORep.plain {d : D} {o : HO} (h : ORep K W H d o) (p : xM d = true) : ORep K W' H d o := by
  cases h with
  | lst r => exact .lst (r.plain p)
  | dK l r => exact .dK l (r.plain p)
  | dT l r => exact .dT l (r.plain p)
theorem ORep.rep {d : D} {o : HO} {a : Addr} (h : ORep K W H d o) (n : ¬ W a) (e : H a = some o) : Rep K W H d (.ref a) := by
  cases h with
  | lst r => exact .lst (.inl ⟨n, .inl e⟩) r
  | dK l r => exact .dK n (.inl e) l r
  | dT l r => exact .dT n e l r
theorem ORep.kind {d : D} {o : HO} (h : ORep K W H d o) : (∀ xs, o ≠ .tup xs) ∧ (∀ b u, o ≠ .frz b u) := by
  cases h <;> exact ⟨fun _ z => (nomatch z), fun _ _ z => (nomatch z)⟩
noncomputable def add (W : Addr → Prop) (a : Addr) : Addr → Prop := fun b => W b ∨ b = a
inductive Frz (K : PySem.W.Frag) (W : Addr → Prop) (H : Hp) : SV → V → Prop where
  | val {d : D} {v : V} (h : Rep K W H d v) : Frz K W H (.val d) v
  | lis {d : D} {a : Addr} {o : HO} (h : ¬ W a) (e : H a = some o) (r : ORep K W H d o) : Frz K W H (.obj true d) (.ref a)
  | see {d : D} {a : Addr} {o : HO} (h : W a) (e : H a = some o) (r : ORep K W H d o) : Frz K W H (.obj false d) (.ref a)
inductive Res (K : PySem.W.Frag) (W : Addr → Prop) (H H' : Hp) : SV → V → Prop where
  | val {d : D} {v : V} (h : Rep K W H' d v) : Res K W H H' (.val d) v
  | new {d : D} {a : Addr} {o : HO} (h : H a = Option.none) (e : H' a = some o) (r : ORep K (add W a) H' d o) : Res K W H H' (.obj true d) (.ref a)
  | see {d : D} {a : Addr} {o : HO} (h : W a) (e : H' a = some o) (r : ORep K W H' d o) : Res K W H H' (.obj false d) (.ref a)
noncomputable def Wf (W : Addr → Prop) (H : Hp) : Prop := ∀ a, W a → H a ≠ Option.none
theorem Res.frz {r : SV} {v : V} (h : Res K W H H' r v) (wf : Wf W H) : Frz K W H' r v := by
  cases h with
  | val h => exact .val h
  | new h e r => exact .lis (fun w => wf _ w h) e (r.less fun b w => .inl w)
  | see h e r => exact .see h e r
theorem Frz.same {r : SV} {v : V} (h : Frz K W H r v) (s : Same H H') : Frz K W H' r v := by
  cases h with
  | val h => exact .val (h.ext (.same s))
  | lis h e r => exact .lis h (s _ _ e) (r.ext (.same s))
  | see h e r => exact .see h (s _ _ e) (r.ext (.same s))
noncomputable def Sees (K : PySem.W.Frag) (W : Addr → Prop) (H : Hp) (d : D) (v : V) : Prop :=
  Rep K W H d v ∨ ∃ a o, v = .ref a ∧ H a = some o ∧ ORep K W H d o
theorem Frz.sees {r : SV} {v : V} (h : Frz K W H r v) : Sees K W H (zu r) v := by
  cases h with
  | val h => exact .inl h
  | lis h e r => exact .inr ⟨_, _, rfl, e, r⟩
  | see h e r => exact .inr ⟨_, _, rfl, e, r⟩
theorem Sees.lst {ds : List D} {v : V} (h : Sees K W H (.lst ds) v) : ∃ a xs, v = .ref a ∧ SqL K H a xs ∧ Reps K W H ds xs := by
  rcases h with h | ⟨a, o, rfl, e, r⟩
  · cases h with
    | lst h r =>
      rcases h with ⟨_, h⟩ | h
      · exact ⟨_, _, rfl, .inl h, r⟩
      · exact ⟨_, _, rfl, .inr h, r⟩
  · cases r with
    | lst r => exact ⟨_, _, rfl, .of e, r⟩
theorem Sees.tupH {ds : List D} {v : V} (h : Sees K W H (.tup ds) v) : ∃ a xs, v = .ref a ∧ H a = some (.tup xs) ∧ Reps K W H ds xs := by
  rcases h with h | ⟨a, o, rfl, e, r⟩
  · cases h with
    | tup h r => exact ⟨_, _, rfl, h, r⟩
  · cases r
theorem Sees.tup {ds : List D} {v : V} (h : Sees K W H (.tup ds) v) : ∃ a xs, v = .ref a ∧ SqT K H a xs ∧ Reps K W H ds xs := by
  obtain ⟨a, xs, e, h, r⟩ := h.tupH
  exact ⟨a, xs, e, .of h, r⟩
theorem Sees.dK {ks vs : List D} {v : V} (h : Sees K W H (.dct false ks vs) v) : ∃ a ns ys, v = .ref a ∧ ks = ns.map D.int ∧ Rd H a (.dK (vJ ns ys)) ∧ ns.length = ys.length ∧ Reps K W H vs ys := by
  rcases h with h | ⟨a, o, rfl, e, r⟩
  · cases h with
    | dK n h l r => exact ⟨_, _, _, rfl, rfl, h, l, r⟩
  · cases r with
    | dK l r => exact ⟨_, _, _, rfl, rfl, .inl e, l, r⟩
theorem Sees.dT {ks vs : List D} {v : V} (h : Sees K W H (.dct true ks vs) v) : ∃ a ns ys, v = .ref a ∧ ks = ns.map kT ∧ H a = some (.dT (vK ns ys)) ∧ ns.length = ys.length ∧ Reps K W H vs ys := by
  rcases h with h | ⟨a, o, rfl, e, r⟩
  · cases h with
    | dT n h l r => exact ⟨_, _, _, rfl, rfl, h, l, r⟩
  · cases r with
    | dT l r => exact ⟨_, _, _, rfl, rfl, e, l, r⟩
theorem Sees.int {i : Int} {v : V} (h : Sees K W H (.int i) v) : v = .int i := by
  rcases h with h | ⟨a, o, rfl, e, r⟩
  · cases h; rfl
  · cases r
theorem Sees.bl {i : Bool} {v : V} (h : Sees K W H (.bl i) v) : v = .bl i := by
  rcases h with h | ⟨a, o, rfl, e, r⟩
  · cases h; rfl
  · cases r
theorem Sees.str {i : Str} {v : V} (h : Sees K W H (.str i) v) : v = .str i := by
  rcases h with h | ⟨a, o, rfl, e, r⟩
  · cases h; rfl
  · cases r
theorem Sees.non {v : V} (h : Sees K W H .non v) : v = .non := by
  rcases h with h | ⟨a, o, rfl, e, r⟩
  · cases h; rfl
  · cases r
theorem Frz.toD {r : SV} {v : V} {d : D} (h : Frz K W H r v) (e : LW.toD r = some d) : Rep K W H d v := by
  cases h with
  | val h => simp [LW.toD] at e; subst e; exact h
  | lis h e' r => simp [LW.toD] at e; subst e; exact r.rep h e'
  | see h e' r => simp [LW.toD] at e
noncomputable def xu (ρ : LW.Env) (σ : St) (a : Addr) : Prop := ∃ (i : Nat) (x : SV) (d : D), ρ[i]? = some (some x) ∧ x.cell = some d ∧ σ[i]? = some (some (.ref a))
structure R (K : PySem.W.Frag) (W : Addr → Prop) (ρ : LW.Env) (σ : St) (H : Hp) : Prop where
  val : ∀ (i : Nat) (d : D), ρ[i]? = some (some (.val d)) → ∃ v, σ[i]? = some (some v) ∧ Rep K W H d v
  nol : ∀ (i : Nat) (d : D), ρ[i]? ≠ some (some (.obj false d))
  own : ∀ (i : Nat) (x : SV) (d : D), ρ[i]? = some (some x) → x.cell = some d → ∃ a o, σ[i]? = some (some (.ref a)) ∧ W a ∧ H a = some o ∧ ORep K W H d o
  inj : ∀ (i j : Nat) (x y : SV) (d e : D) (a : Addr), ρ[i]? = some (some x) → ρ[j]? = some (some y) → x.cell = some d → y.cell = some e → σ[i]? = some (some (.ref a)) → σ[j]? = some (some (.ref a)) → i = j
  wf : Wf W H
  len : ρ.length = σ.length
theorem R.ownW {ρ : LW.Env} {σ : St} (r : R K W ρ σ H) {a : Addr} (o : xu ρ σ a) : W a ∧ ∃ o d, H a = some o ∧ ORep K W H d o := by
  obtain ⟨i, x, d, h1, h2, h3⟩ := o
  obtain ⟨b, o, e, w, q, z⟩ := r.own i x d h1 h2
  rw [h3] at e; cases e
  exact ⟨w, o, d, q, z⟩
theorem R.same {ρ : LW.Env} {σ : St} (r : R K W ρ σ H) (s : Same H H') : R K W ρ σ H' := by
  refine ⟨fun i d h => ?_, r.nol, fun i x d h h' => ?_, r.inj, fun a w => ?_, r.len⟩
  · obtain ⟨v, h1, h2⟩ := r.val i d h
    exact ⟨v, h1, h2.ext (.same s)⟩
  · obtain ⟨a, o, h1, h2, h3, h4⟩ := r.own i x d h h'
    exact ⟨a, o, h1, h2, s _ _ h3, h4.ext (.same s)⟩
  · cases e : H a with
    | none => exact absurd e (r.wf a w)
    | some o => rw [s a o e]; exact fun z => nomatch z
theorem R.look {ρ : LW.Env} {σ : St} (r : R K W ρ σ H) {i : Nat} {x : SV} (h : look ρ i = some x) : ∃ v, σ[i]? = some (some v) ∧ Frz K W H x v ∧ Res K W H H x v := by
  unfold LW.look at h
  split at h
  · rename_i d e
    cases h
    obtain ⟨v, h1, h2⟩ := r.val i d e
    exact ⟨v, h1, .val h2, .val h2⟩
  · rename_i o d e
    cases h
    cases o with
    | false => exact absurd e (r.nol i d)
    | true =>
      obtain ⟨a, o, h1, h2, h3, h4⟩ := r.own i _ d e rfl
      exact ⟨_, h1, .see h2 h3 h4, .see h2 h3 h4⟩
  · rename_i d e
    cases h
    obtain ⟨a, o, h1, h2, h3, h4⟩ := r.own i _ d e rfl
    exact ⟨_, h1, .see h2 h3 h4, .see h2 h3 h4⟩
  · cases h
noncomputable def yY (ρ : LW.Env) (i : Nat) : Prop := ∃ d, ρ[i]? = some (some (.io d))
theorem Zn {ρ : LW.Env} {i : Nat} (h : LW.free ρ i = true) : ¬ yY ρ i := fun zz0 => by
  obtain ⟨d, e⟩ := zz0
  unfold LW.free at h; rw [e] at h; cases h
structure SPost (K : PySem.W.Frag) (W : Addr → Prop) (ρ : LW.Env) (σ : St) (H : Hp) (W' : Addr → Prop) (ρ' : LW.Env) (σ' : St) (H' : Hp) : Prop where
  r : R K W' ρ' σ' H'
  keep : ∀ a o, H a = some o → ¬ xu ρ σ a → H' a = some o
  win : ∀ a, W' a → W a ∨ H a = Option.none
  wout : ∀ a, W a → ¬ xu ρ σ a → W' a ∧ ¬ xu ρ' σ' a
  io : ∀ i, (yY ρ' i ↔ yY ρ i) ∧ (yY ρ i → σ'[i]? = σ[i]?)
theorem SPost.trans {W1 W2 : Addr → Prop} {ρ ρ1 ρ2 : LW.Env} {σ σ1 σ2 : St} {H1 H2 : Hp} (x : SPost K W ρ σ H W1 ρ1 σ1 H1) (y : SPost K W1 ρ1 σ1 H1 W2 ρ2 σ2 H2) (r0 : R K W ρ σ H) : SPost K W ρ σ H W2 ρ2 σ2 H2 := by
  have no1 : ∀ a o, H a = some o → ¬ xu ρ σ a → ¬ xu ρ1 σ1 a := fun a o h n z => by
    rcases x.win a (x.r.ownW z).1 with w | w
    · exact (x.wout a w n).2 z
    · rw [h] at w; cases w
  refine ⟨y.r, fun a o h n => y.keep a o (x.keep a o h n) (no1 a o h n), fun a w => ?_, fun a w n => ?_, fun i => ⟨(y.io i).1.trans (x.io i).1, fun z => ((y.io i).2 ((x.io i).1.mpr z)).trans ((x.io i).2 z)⟩⟩
  · rcases y.win a w with q | q
    · exact x.win a q
    · cases e : H a with
      | none => exact .inr rfl
      | some o =>
        by_cases n : xu ρ σ a
        · exact .inl (r0.ownW n).1
        · rw [x.keep a o e n] at q; cases q
  · obtain ⟨w1, n1⟩ := x.wout a w n
    exact y.wout a w1 n1
theorem SPost.ext {W1 : Addr → Prop} {ρ ρ1 : LW.Env} {σ σ1 : St} {H1 : Hp} (x : SPost K W ρ σ H W1 ρ1 σ1 H1) (r0 : R K W ρ σ H) : Ext W H W1 H1 := by
  refine ⟨fun a o h n => x.keep a o h fun z => n (r0.ownW z).1, fun a xs h => x.keep a _ h fun z => ?_, fun a o u h => x.keep a _ h fun z => ?_, x.win⟩
  · obtain ⟨_, o, d, e, q⟩ := r0.ownW z
    rw [h] at e; cases e; exact q.kind.1 xs rfl
  · obtain ⟨_, o, d, e, q⟩ := r0.ownW z
    rw [h] at e; cases e; exact q.kind.2 _ _ rfl
theorem SPost.same {ρ : LW.Env} {σ : St} (r0 : R K W ρ σ H) (s : Same H H') : SPost K W ρ σ H W ρ σ H' :=
  ⟨r0.same s, fun a o h _ => s a o h, fun a w => .inl w, fun a w n => ⟨w, n⟩, fun _ => ⟨.rfl, fun _ => rfl⟩⟩
end
noncomputable def zeJ (ρ : LW.Env) (σ : St) (a : Addr) : Prop := ∃ i, yY ρ i ∧ σ[i]? = some (some (.ref a))
inductive Ret (K : PySem.W.Frag) (W : Addr → Prop) (ρ : LW.Env) (σ : St) (W' : Addr → Prop) (H' : Hp) : SV → V → Prop where
  | val {d : D} {v : V} (h : Rep K W' H' d v) : Ret K W ρ σ W' H' (.val d) v
  | new {d : D} {a : Addr} {o : HO} (h : W' a) (n : ¬ (W a ∧ ¬ xu ρ σ a)) (n' : ¬ zeJ ρ σ a) (e : H' a = some o) (r : ORep K W' H' d o) : Ret K W ρ σ W' H' (.obj true d) (.ref a)
noncomputable def tE (K : PySem.W.Frag) (fn : Nat → List D → Option SV) (c : E) : TE := fun σ H Q => ∃ W ρ r, R K W ρ σ H ∧ zf fn c ρ = some r ∧ ∀ v H', Same H H' → Res K W H H' r v → Q v H'
noncomputable def tV (K : PySem.W.Frag) (fn : Nat → List D → Option SV) (c : E) : TE := fun σ H Q => ∃ W ρ r, R K W ρ σ H ∧ zf fn c ρ = some r ∧ ∀ v H', Same H H' → Frz K W H' r v → Q v H'
noncomputable def qg (K : PySem.W.Frag) (fn : Nat → List D → Option SV) (cs : Es) : TA := fun σ H Q => ∃ W ρ rs, R K W ρ σ H ∧ zN fn cs ρ = some rs ∧ ∀ vs H', Same H H' → Paired (Frz K W H') rs vs → Q vs H'
noncomputable def tT (K : PySem.W.Frag) (fn : Nat → List D → Option SV) (c : E) : TT := fun σ H Q => ∃ W ρ b, R K W ρ σ H ∧ zx fn c ρ = some b ∧ ∀ H', Same H H' → Q b H'
noncomputable def FlOk (K : PySem.W.Frag) (W : Addr → Prop) (ρ : LW.Env) (σ : St) (W' : Addr → Prop) (ρ' : LW.Env) (σ' : St) (H' : Hp) (D : Ends) : Fl → Prop
  | .nx => D.nx σ' H'
  | .br => D.bk σ' H'
  | .ct => D.ct σ' H'
  | .rt r => ∀ v, Ret K W ρ σ W' H' r v → D.rt v H'
noncomputable def jt (K : PySem.W.Frag) (ex : LW.Env → Option (Fl × LW.Env)) : TS := fun D σ H => ∃ W ρ x, R K W ρ σ H ∧ ex ρ = some x ∧ ∀ W' σ' H', SPost K W ρ σ H W' x.2 σ' H' → FlOk K W ρ σ W' x.2 σ' H' D x.1
theorem _root_.L2.PE.imp {X : Cx} {e : Expr} {t t' : TE} (h : PE X e t) (i : ∀ σ H Q, t' σ H Q → t σ H Q) : PE X e t' := fun pins s σ H Q I q => h pins s σ H Q I (i σ H Q q)
theorem _root_.L2.PT.imp {X : Cx} {e : Expr} {t t' : TT} (h : PT X e t) (i : ∀ σ H Q, t' σ H Q → t σ H Q) : PT X e t' := fun pins s σ H Q I q => h pins s σ H Q I (i σ H Q q)
theorem _root_.L2.PW.imp {X : Cx} {e : Expr} {t t' : TT} (h : PW X e t) (i : ∀ σ H Q, t' σ H Q → t σ H Q) : PW X e t' := fun wh pins s σ H Q I q => h wh pins s σ H Q I (i σ H Q q)
theorem _root_.L2.PA.imp {X : Cx} {e : List Expr} {t t' : TA} (h : PA X e t) (i : ∀ σ H Q, t' σ H Q → t σ H Q) : PA X e t' := fun pos pins s σ H Q I q => h pos pins s σ H Q I (i σ H Q q)
theorem _root_.L2.PS.imp {X : Cx} {e : Stmt} {t t' : TS} (h : PS X e t) (i : ∀ D σ H, t' D σ H → t D σ H) : PS X e t' := fun pins s σ H D I q => h pins s σ H D I (i D σ H q)
theorem _root_.L2.PSs.imp {X : Cx} {e : List Stmt} {t t' : TS} (h : PSs X e t) (i : ∀ D σ H, t' D σ H → t D σ H) : PSs X e t' := fun pins s σ H D I q => h pins s σ H D I (i D σ H q)
end L2.LW
set_option maxHeartbeats 4000000
namespace HT
open PySem PyProof.Rows
theorem zeK : Slot "tuple" (cmpInfo .Gt).2.1 "tuple.__gt__" :=
  .of (owner := "tuple") (n := "__gt__") (by rw [typeLookup_type, builtinLookup_eq_fast]; kernel_rfl) (by decide +kernel) (by decide +kernel) (by decide +kernel)
    (by first | exact .inl (by decide +kernel) | exact .inr (by decide +kernel)) (by rw [isSubtype_type]; kernel_rfl)
theorem zeL : entryFor table "tuple.__gt__" = some Builtin.«tuple.__gt__» := entryFor_of_tree (by kernel_rfl)
theorem zeM (a b : Value) : argsOk "tuple.__gt__" ⟨[a, b], []⟩ := by
  unfold argsOk; rw [signature?_of (id := "tuple.__gt__") (n := ['_', '_', 't', 'g', '_', '_']) (o := ['e', 'l', 'p', 'u', 't']) (by kernel_rfl) PySem.F.owner_tuple]; kernel_rfl
theorem zeN (A : Around) (s : Shared) (a : Int) (t : Tok) (c : Int) (u : Tok) (prog : Program) (w : World) (E : Value → Shared → Prop) (Q : Value → Shared → Prop) (h : Q (.bool (decide (c < a))) s) :
    wpAny (model prog w) A (richCompare .Gt (.int a t) (.int c u)) Q E s :=
  (PyProof.Rows.gt_int h : wpAny (model prog w) A (compareOp .Gt (.int a t) (.int c u)) Q E s)
section
open PySem.SeqAt
open PySem.AutoSeq1 (wpAny_loadPart')
open PySem.MeetsSeq PySem.MeetsSeq2 PySem.MeetsSeq3
theorem zeO (l b : Addr) (items items2 : Array Value) (n n2 : Nat) (dd dd2 : Option Addr) (sl sl2 : Array (Option Value)) (ns ms : List Int) (hi : IntsAre items.toList ns) (hj : IntsAre items2.toList ms) :
    Meets (Builtin.«tuple.__gt__» ⟨[.ref l, .ref b], []⟩)
      (fun _ R s => s.heap.get? l = some { cls := .type "tuple", dict := dd, data := .seq items n, slots := sl } ∧ s.heap.get? b = some { cls := .type "tuple", dict := dd2, data := .seq items2 n2, slots := sl2 } ∧
        R (.ok (.ret (.bool (lexLt ms ns)))) s) :=
  .of_wp fun prog w A R s h => by
    obtain ⟨hp, g, d, tk, os⟩ := s; obtain ⟨hl, hb, h⟩ := h
    have f2 := AutoSeq1.sub_tuple_tuple
    have z1 : items.size = ns.length := by rw [← hi.length]; simp
    have z2 : items2.size = ms.length := by rw [← hj.length]; simp
    wp_walk using wpAny_loadPart' hl, wpAny_loadPart' hb, wpAny_forIn_list _ (fun zX b s' => b.1 = none ∧ s' = ⟨hp, g, d, tk, os⟩ ∧ ∃ (vs ws : List Value) (ns' ms' : List Int), zX = vs.zip ws ∧
      IntsAre vs ns' ∧ IntsAre ws ms' ∧ ns'.length + items2.size = ms'.length + items.size ∧ R (.ok (.ret (.bool (lexLt ms' ns')))) ⟨hp, g, d, tk, os⟩) _
    case turn =>
      rintro ⟨y, x⟩ zX b s' ⟨hb', rfl, vs, ws, ns', ms', hz, hvi, hwi, hlen, hR⟩
      cases hvi with
      | nil => rw [List.zip_nil_left] at hz; cases hz
      | cons a t hvi' =>
        cases hwi with
        | nil => rw [List.zip_nil_right] at hz; cases hz
        | cons c u hwi' =>
          rw [List.zip_cons_cons] at hz
          injection hz with hyx hrest
          injection hyx with hy hx
          subst hy hx
          rw [lexLt_cons] at hR
          simp only [List.length_cons] at hlen
          obtain ⟨e, he, hiff⟩ := kz A.in1 ⟨hp, g, d, tk, os⟩ a t c u
          refine wpAny_bind (he prog w _ _ ?_)
          cases e with
          | true =>
            rw [if_pos (hiff.mp rfl).symm] at hR
            wp_walk
            exact ⟨rfl, rfl, _, _, _, _, hrest, hvi', hwi', by omega, hR⟩
          | false =>
            rw [if_neg (fun q => absurd (hiff.mpr q.symm) Bool.false_ne_true)] at hR
            have hri := zeN A.in1 ⟨hp, g, d, tk, os⟩ a t c u prog w
            wp_walk using hri
            exact ⟨_, rfl, by simpa using hR⟩
    case fin =>
      rintro ⟨b1, b2⟩ s' ⟨hb', rfl, vs, ws, ns', ms', hz, hvi, hwi, hlen, hR⟩
      simp only at hb'
      subst hb'
      have hv : (lexLt ms' ns') = decide (items.size > items2.size) := by
        cases hvi with
        | nil =>
          cases hwi with
          | nil =>
            simp only [List.length_nil] at hlen
            rw [ku]
            exact (decide_eq_false (by omega)).symm
          | cons c u hw =>
            simp only [List.length_nil, List.length_cons] at hlen
            rw [ky]
            exact (decide_eq_false (by omega)).symm
        | cons a t hv =>
          cases hwi with
          | nil =>
            simp only [List.length_nil, List.length_cons] at hlen
            rw [kw]
            exact (decide_eq_true (by omega)).symm
          | cons c u hw =>
            rw [List.zip_cons_cons] at hz
            cases hz
      rw [hv] at hR
      wp_walk
      exact ⟨_, rfl, by simpa [Builtin.Tuple.tupleCompareSizes] using hR⟩
    case h =>
      exact ⟨rfl, rfl, items.toList, items2.toList, ns, ms, rfl, hi, hj, by omega, h⟩
end
section
variable {prog : Program} {w : World} {A : Around} {E : Value → Shared → Prop} {s : Shared}
theorem gt_tupInts {l b : Addr} {items items2 : Array Value} {ns ms : List Int} {Q : Value → Shared → Prop} (hl : IsTup s.heap l items) (hb : IsTup s.heap b items2) (hi : IntsAre items.toList ns) (hj : IntsAre items2.toList ms)
    (hu : A.units < cLine) (h : Q (.bool (lexLt ms ns)) s) : wpAny (model prog w) A (compareOp .Gt (.ref l) (.ref b)) Q E s := by
  obtain ⟨⟨cls, dd, data, sl⟩, ho, hc, n, hd⟩ := id hl
  obtain ⟨⟨cls2, dd2, data2, sl2⟩, ho2, hc2, n2, hd2⟩ := id hb
  simp only at hc hd hc2 hd2
  subst hc hd hc2 hd2
  exact richCompare_meets_room (op := .Gt) ⟨_, ho, rfl⟩ ⟨_, ho2, rfl⟩ zeK zeL (zeM _ _) (zeO l b items items2 n n2 dd dd2 sl sl2 ns ms hi hj)
    ⟨ho, ho2, show Value.bool (lexLt ms ns) ≠ Value.notImplemented ∧ Q (.bool (lexLt ms ns)) s from ⟨(fun x => nomatch x), h⟩⟩ hu
end
end HT
set_option maxHeartbeats 4000000
namespace L2.LW
open PySem PySem.Spec PyProof.Rows
noncomputable def VR (K : PySem.W.Frag) (f : List D → Option SV) (vs : List V) (H : Hp) (Q : VK) : Prop :=
  ∃ W ds r, Wf W H ∧ Paired (Sees K W H) ds vs ∧ f ds = some r ∧ ∀ v H', Same H H' → Res K W H H' r v → Q v H'
noncomputable def yj (K : PySem.W.Frag) (f : List D → Option SV) : R2 := fun x y H Q => VR K f [x, y] H Q
noncomputable def qh (K : PySem.W.Frag) (f : List D → Option SV) : V → Hp → VK → Prop := fun x H Q => VR K f [x] H Q
theorem YS {α β : Type} {F : α → β → Prop} {ds : List α} {x : β} (h : Paired F ds [x]) : ∃ d, ds = [d] ∧ F d x := by
  cases h with
  | cons h t => cases t; exact ⟨_, rfl, h⟩
theorem yZ {α β : Type} {F : α → β → Prop} {ds : List α} {x y : β} (h : Paired F ds [x, y]) : ∃ d e, ds = [d, e] ∧ F d x ∧ F e y := by
  cases h with
  | cons h t =>
    obtain ⟨e, rfl, h2⟩ := YS t
    exact ⟨_, e, rfl, h, h2⟩
mutual
noncomputable def zO : D → PyData
  | .int i => .int i
  | .bl b => .bool b
  | .non => .none
  | .str x => .str x
  | .tup l => .tuple (yB l)
  | .lst l => .list (yB l)
  | .dct _ _ _ => .dict []
noncomputable def yB : List D → List PyData
  | [] => []
  | x :: xs => zO x :: yB xs
end
mutual
theorem YT : ∀ d e : D, PyData.eqv (zO d) (zO e) = zT d e
  | .int a, e => by cases e <;> simp [zO, PyData.eqv, zT]
  | .bl a, e => by cases e <;> simp [zO, PyData.eqv, zT]
  | .non, e => by cases e <;> simp [zO, PyData.eqv, zT]
  | .str a, e => by cases e <;> simp [zO, PyData.eqv, zT]
  | .tup l, e => by
    cases e with
    | tup m => simp only [zO, PyData.eqv, zT]; exact VI l m
    | _ => simp [zO, PyData.eqv, zT]
  | .lst l, e => by
    cases e with
    | lst m => simp only [zO, PyData.eqv, zT]; exact VI l m
    | _ => simp [zO, PyData.eqv, zT]
  | .dct t a b, e => by cases e <;> simp [zO, PyData.eqv, zT]
theorem VI : ∀ ds es : List D, PyData.eqvAll (yB ds) (yB es) = yG ds es
  | [], [] => by simp [yB, PyData.eqvAll, yG]
  | [], _ :: _ => by simp [yB, PyData.eqvAll, yG]
  | _ :: _, [] => by simp [yB, PyData.eqvAll, yG]
  | x :: xs, y :: ys => by simp only [yB, PyData.eqvAll, yG]; rw [YT x y, VI xs ys]
end
theorem Zo {n : Nat} (ih : ∀ d, zE n d = true → (zO d).canLay0 = true ∧ (zO d).depth ≤ n) : ∀ l : List D, l.all (zE n) = true → PyData.canLayAll0 (yB l) = true ∧ PyData.depthAll (yB l) ≤ n
  | [], _ => by simp [yB, PyData.canLayAll0, PyData.depthAll]
  | x :: xs, h => by
    simp only [List.all_cons, Bool.and_eq_true] at h
    obtain ⟨h1, h2⟩ := ih x h.1
    obtain ⟨h3, h4⟩ := Zo ih xs h.2
    refine ⟨by simp [yB, PyData.canLayAll0, h1, h3], ?_⟩
    simp only [yB, PyData.depthAll]
    omega
theorem xZ : ∀ (n : Nat) (d : D), zE n d = true → (zO d).canLay0 = true ∧ (zO d).depth ≤ n
  | _, .int _, _ => by simp [zO, PyData.canLay0, PyData.depth]
  | _, .bl _, _ => by simp [zO, PyData.canLay0, PyData.depth]
  | _, .non, _ => by simp [zO, PyData.canLay0, PyData.depth]
  | _, .str _, h => by simp [zE] at h
  | 0, .dct _ _ _, h => by simp [zE] at h
  | _ + 1, .dct _ _ _, h => by simp [zE] at h
  | 0, .tup _, h => by simp [zE] at h
  | 0, .lst _, h => by simp [zE] at h
  | n + 1, .tup l, h => by
    obtain ⟨h1, h2⟩ := Zo (xZ n) l (by simpa [zE] using h)
    exact ⟨by simpa [zO, PyData.canLay0] using h1, by simp only [zO, PyData.depth]; omega⟩
  | n + 1, .lst l, h => by
    obtain ⟨h1, h2⟩ := Zo (xZ n) l (by simpa [zE] using h)
    exact ⟨by simpa [zO, PyData.canLay0] using h1, by simp only [zO, PyData.depth]; omega⟩
theorem VJ (d : D) : ∀ l : List D, ((yB l).any fun y => PyData.eqv y (zO d)) = l.any fun y => zT y d
  | [] => by simp [yB]
  | x :: xs => by simp only [yB, List.any_cons]; rw [YT x d, VJ d xs]
section
variable {X : Cx} {pins : List (Addr × Obj)} {σ : St} {H : Hp} {s : Shared} {W : Addr → Prop}
mutual
theorem Rep.reads (I : Inv X pins σ H s) : ∀ {n : Nat} {d : D} {x : V} {v : Value}, zE n d = true → Rep X.K W H d x → RelV x v → ∃ as, Reads s.heap v (zO d) as
  | _, _, _, _, _, .int i, r => by obtain ⟨t, rfl⟩ := r; exact ⟨_, .int _ _⟩
  | _, _, _, _, _, .bl b, r => by cases r; exact ⟨_, .bool _⟩
  | _, _, _, _, _, .non, r => by cases r; exact ⟨_, .none⟩
  | _, _, _, _, _, .str x, r => by obtain ⟨t, rfl⟩ := r; exact ⟨_, .str _ _⟩
  | 0, _, _, _, n, .tup h rs, r => by simp [zE] at n
  | 0, _, _, _, n, .lst h rs, r => by simp [zE] at n
  | _ + 1, _, _, _, n, .tup h rs, r => by
    cases r
    obtain ⟨its, rv, ⟨o, ho, hc, m, hd⟩, hz⟩ := I.tuple (.of h)
    obtain ⟨as, q⟩ := Reps.reads I (by simpa [zE] using n) rs rv
    exact ⟨as, by simp only [zO]; exact .tuple ho hc hd (by simpa using q)⟩
  | _ + 1, _, _, _, n, .lst h rs, r => by
    cases r
    obtain ⟨its, rv, ⟨o, m, ho, hc, _, hd⟩, hz⟩ := I.list (show SqL X.K H _ _ from h.elim (fun z => .inl z.2) fun z => .inr z)
    obtain ⟨as, q⟩ := Reps.reads I (by simpa [zE] using n) rs rv
    exact ⟨_, by simp only [zO]; exact .list ho hc hd (by simpa using q)⟩
  | 0, _, _, _, n, .dK _ _ _ _, r => by simp [zE] at n
  | 0, _, _, _, n, .dT _ _ _ _, r => by simp [zE] at n
  | _ + 1, _, _, _, n, .dK _ _ _ _, r => by simp [zE] at n
  | _ + 1, _, _, _, n, .dT _ _ _ _, r => by simp [zE] at n
theorem Reps.reads (I : Inv X pins σ H s) : ∀ {n : Nat} {ds : List D} {xs : List V} {vs : List Value}, ds.all (zE n) = true → Reps X.K W H ds xs → Vals xs vs → ∃ as, ReadsAll s.heap vs (yB ds) as
  | _, _, _, _, _, .nil, r => by cases r; exact ⟨_, by simp only [yB]; exact .nil⟩
  | _, _, _, _, n, .cons h t, r => by
    cases r with
    | cons r1 r2 =>
      simp only [List.all_cons, Bool.and_eq_true] at n
      obtain ⟨as, q1⟩ := Rep.reads I n.1 h r1
      obtain ⟨bs, q2⟩ := Reps.reads I n.2 t r2
      exact ⟨_, by simp only [yB]; exact .cons q1 q2⟩
end
theorem Sees.reads (I : Inv X pins σ H s) {n : Nat} {d : D} {x : V} {v : Value} (hn : zE n d = true) (h : Sees X.K W H d x) (r : RelV x v) : ∃ as, Reads s.heap v (zO d) as := by
  rcases h with h | ⟨a, o, rfl, e, rs⟩
  · exact h.reads I hn r
  · cases r
    cases rs with
    | lst rs =>
      obtain ⟨its, rv, ⟨o, m, ho, hc, _, hd⟩, hz⟩ := I.list (show SqL X.K H _ _ from .of e)
      cases n with
      | zero => simp [zE] at hn
      | succ n =>
        obtain ⟨as, q⟩ := rs.reads I (n := n) (by simpa [zE] using hn) rv
        exact ⟨_, by simp only [zO]; exact .list ho hc hd (by simpa using q)⟩
    | dK l r => cases n <;> simp [zE] at hn
    | dT l r => cases n <;> simp [zE] at hn
theorem Sees.readsL (I : Inv X pins σ H s) {n : Nat} {l : List D} {x : V} {v : Value} (hn : l.all (zE n) = true) (h : Sees X.K W H (.lst l) x) (r : RelV x v) : ∃ as, Reads s.heap v (zO (.lst l)) as :=
  h.reads I (n := n + 1) (by simpa [zE] using hn) r
theorem Sees.readsT (I : Inv X pins σ H s) {n : Nat} {l : List D} {x : V} {v : Value} (hn : l.all (zE n) = true) (h : Sees X.K W H (.tup l) x) (r : RelV x v) : ∃ as, Reads s.heap v (zO (.tup l)) as :=
  h.reads I (n := n + 1) (by simpa [zE] using hn) r
end
theorem xR {H : Hp} {p : Addr} (h : H p = Option.none) (o : HO) : Same H (zJ H p o) := fun b u q => by rw [zL (jf q h)]; exact q
theorem Zp {K : PySem.W.Frag} {W : Addr → Prop} {H : Hp} {p : Addr} {ds : List D} {xs : List V} (hp : H p = Option.none) (r : Reps K W H ds xs) : Res K W H (zJ H p (.lst xs)) (.lis true ds) (.ref p) := by
  refine .new hp wm (.lst (r.ext ⟨fun a o h _ => xR hp _ a o h, fun a xs h => xR hp _ a _ h, fun a o u h => xR hp _ a _ h, fun a w => ?_⟩))
  rcases w with w | rfl
  · exact .inl w
  · exact .inr hp
theorem qi {K : PySem.W.Frag} {W : Addr → Prop} {H : Hp} {p : Addr} {ds : List D} {xs : List V} (hp : H p = Option.none) (r : Reps K W H ds xs) : Res K W H (zJ H p (.tup xs)) (.val (.tup ds)) (.ref p) :=
  .val (.tup wm (r.ext (.same (xR hp _))))
section
variable {X : Cx}
theorem VL : line = sizeLine := by rw [sizeLine_eq]; rfl
theorem VM : ∀ {l : List D} {ns : List Int}, ints? l = some ns → l = ns.map D.int
  | [], ns, e => by simp [ints?] at e; subst e; rfl
  | d :: r, ns, e => by
    cases d with
    | int i =>
      simp only [ints?, jo2] at e
      obtain ⟨ms, e1, rfl⟩ := e
      rw [VM e1]; rfl
    | _ => simp [ints?] at e
theorem qj (ns : List Int) : (ns.map Sum.inl).map kV = ns.map V.int := by
  rw [List.map_map]; rfl
theorem VN : ∀ (a b : List Int), yG (a.map D.int) (b.map D.int) = decide (a = b)
  | [], [] => by simp [yG]
  | [], _ :: _ => by simp [yG]
  | _ :: _, [] => by simp [yG]
  | x :: xs, y :: ys => by
    rw [Bool.eq_iff_iff]
    simp [yG, zT, VN xs ys]
theorem zeP {a b : List Int} (h : (a.map Sum.inl : List zG) = b.map Sum.inl) : a = b := (List.map_inj_right (fun _ _ z => Sum.inl.inj z)).mp h
theorem qk (k d : D) (ks : List D) : yA (d :: ks) k = if zT d k then some 0 else (yA ks k).map (· + 1) := by
  unfold yA; rw [List.findIdx?_cons]
theorem VO : ∀ {ns : List Int} {ys : List V}, ns.length = ys.length → ∀ i : Int, yz (vJ ns ys) (.inl i) = (yA (ns.map D.int) (.int i)).bind fun j => ys[j]?
  | [], [], _, i => rfl
  | n :: ns, y :: ys, h, i => by
    have ih := VO (ns := ns) (ys := ys) (by simpa using h) i
    show yz ((Sum.inl n, y) :: vJ ns ys) (.inl i) = _
    rw [List.map_cons, qk]
    by_cases e : n = i
    · rw [jY (by simp [e])]; simp [zT, e]
    · rw [jZ (by simp [e]), ih]
      have : zT (.int n) (.int i) = false := by simp [zT, e]
      rw [this]
      cases yA (ns.map D.int) (.int i) <;> simp
theorem VP : ∀ {ns : List (List Int)} {ys : List V}, ns.length = ys.length → ∀ i : List Int, yz (vK ns ys) (i.map Sum.inl) = (yA (ns.map kT) (kT i)).bind fun j => ys[j]?
  | [], [], _, i => rfl
  | n :: ns, y :: ys, h, i => by
    have ih := VP (ns := ns) (ys := ys) (by simpa using h) i
    show yz ((n.map Sum.inl, y) :: vK ns ys) (i.map Sum.inl) = _
    rw [List.map_cons, qk]
    by_cases e : n = i
    · rw [jY (by simp [e])]
      have : zT (kT n) (kT i) = true := by simp [kT, zT, VN, e]
      rw [this]; rfl
    · rw [jZ (fun z => e (zeP z)), ih]
      have : zT (kT n) (kT i) = false := by simp [kT, zT, VN, e]
      rw [this]
      cases yA (ns.map kT) (kT i) <;> simp
theorem ql {ks : List D} {k : D} {j : Nat} (h : yA ks k = some j) : j < ks.length := by
  unfold yA at h
  obtain ⟨h1, _⟩ := List.findIdx?_eq_some_iff_getElem.mp h
  exact h1
theorem zeQ {ns : List Int} {ys : List V} (h : ns.length = ys.length) {i : Int} : (yz (vJ ns ys) (.inl i)).isSome = (yA (ns.map D.int) (.int i)).isSome := by
  rw [VO h]
  cases e : yA (ns.map D.int) (.int i) with
  | none => rfl
  | some j => have := ql e; simp at this; simp; omega
theorem zeR {ns : List (List Int)} {ys : List V} (h : ns.length = ys.length) {i : List Int} : (yz (vK ns ys) (i.map Sum.inl)).isSome = (yA (ns.map kT) (kT i)).isSome := by
  rw [VP h]
  cases e : yA (ns.map kT) (kT i) with
  | none => rfl
  | some j => have := ql e; simp at this; simp; omega
theorem zeS {K : PySem.W.Frag} {W : Addr → Prop} {H : Hp} {ns : List Int} {ys : List V} {vs : List D} {i : Int} {d : D} (h : ns.length = ys.length) (r : Reps K W H vs ys) (e : dget (ns.map D.int) vs (.int i) = some d) : ∃ y, yz (vJ ns ys) (.inl i) = some y ∧ Rep K W H d y := by
  unfold dget at e
  rw [jo1] at e
  obtain ⟨j, e1, e2⟩ := e
  obtain ⟨y, e3, e4⟩ := r.get e2
  exact ⟨y, by rw [VO h, e1]; exact e3, e4⟩
theorem zeT {K : PySem.W.Frag} {W : Addr → Prop} {H : Hp} {ns : List (List Int)} {ys : List V} {vs : List D} {i : List Int} {d : D} (h : ns.length = ys.length) (r : Reps K W H vs ys) (e : dget (ns.map kT) vs (kT i) = some d) : ∃ y, yz (vK ns ys) (i.map Sum.inl) = some y ∧ Rep K W H d y := by
  unfold dget at e
  rw [jo1] at e
  obtain ⟨j, e1, e2⟩ := e
  obtain ⟨y, e3, e4⟩ := r.get e2
  exact ⟨y, by rw [VP h, e1]; exact e3, e4⟩
theorem yk : OpR X (binaryOp .Add) (yj X.K (zb .add)) := by
  rintro pins s σ H x y v u Q I rx ry ⟨W, ds, r, wf, hs, hf, q⟩
  obtain ⟨d, e, rfl, h1, h2⟩ := yZ hs
  replace hf : YA [d, e] = some r := hf
  unfold YA at hf
  split at hf
  · rename_i a b z; cases z; cases hf
    cases h1.int; cases h2.int
    exact zcD pins s σ H _ _ v u Q I rx ry ⟨_, _, rfl, rfl, q _ H (.refl H) (.val (.int _))⟩
  · rename_i a b z; cases z
    split at hf
    · rename_i hl
      cases hf
      obtain ⟨p, xs, rfl, hp, rp⟩ := h1.lst
      obtain ⟨p2, xs2, rfl, hp2, rp2⟩ := h2.lst
      cases rx; cases ry
      obtain ⟨its, rv, ⟨⟨c1, d1, da1, sl1⟩, n, ho, hc, hdd, hd⟩, hz⟩ := I.list hp
      obtain ⟨its2, rv2, ⟨⟨c2, d2, da2, sl2⟩, n2, ho2, hc2, hdd2, hd2⟩, hz2⟩ := I.list hp2
      simp only at hc hd hdd hc2 hd2 hdd2
      subst hc hd hdd hc2 hd2 hdd2
      have l1 := rv.length
      have l2 := rv2.length
      have l3 := rp.length
      have l4 := rp2.length
      have le := VL
      refine concat_meets ⟨_, ho, rfl⟩ ⟨_, ho2, rfl⟩ noFill_list_add seq_list_add PySem.F.slot_list_add PySem.F.entry_list_add (PySem.F.args_list_add_2 _ _) (list_addW p p2 its.toArray its2.toArray n n2 Option.none Option.none sl1 sl2 (by simp; omega)) ⟨ho, ho2, ?_⟩
      have e : its.toArray ++ its2.toArray = (its ++ its2).toArray := by simp
      rw [e]
      exact ⟨.ref _, _, I.lnew (t' := s.toks) (rv.append rv2) (by rw [List.length_append]; omega), rfl, q _ _ (xR I.fresh _) (Zp I.fresh (rp.append rp2))⟩
    · cases hf
  · cases hf
theorem ju : OpR X (binaryOp .Sub) (yj X.K (zb .sub)) := by
  rintro pins s σ H x y v u Q I rx ry ⟨W, ds, r, wf, hs, hf, q⟩
  obtain ⟨d, e, rfl, h1, h2⟩ := yZ hs
  replace hf : Vv [d, e] = some r := hf
  unfold Vv at hf
  split at hf
  · rename_i a b z; cases z; cases hf
    cases h1.int; cases h2.int
    exact zcE pins s σ H _ _ v u Q I rx ry ⟨_, _, rfl, rfl, q _ H (.refl H) (.val (.int _))⟩
  · cases hf
theorem jv : OpR X (binaryOp .Mult) (yj X.K (zb .mul)) := by
  rintro pins s σ H x y v u Q I rx ry ⟨W, ds, r, wf, hs, hf, q⟩
  obtain ⟨d, e, rfl, h1, h2⟩ := yZ hs
  replace hf : YB [d, e] = some r := hf
  unfold YB at hf
  split at hf
  · rename_i a b z; cases z
    split at hf
    · rename_i hc
      cases hf
      cases h1.int; cases h2.int
      exact zcF pins s σ H _ _ v u Q I rx ry ⟨_, _, rfl, rfl, hc, q _ H (.refl H) (.val (.int _))⟩
    · cases hf
  · cases hf
theorem wS : OpR X (binaryOp .Mod) (yj X.K (zb .mod)) := by
  rintro pins s σ H x y v u Q I rx ry ⟨W, ds, r, wf, hs, hf, q⟩
  obtain ⟨d, e, rfl, h1, h2⟩ := yZ hs
  replace hf : YC [d, e] = some r := hf
  unfold YC at hf
  split at hf
  · rename_i a b z; cases z
    split at hf
    · rename_i hc
      cases hf
      cases h1.int; cases h2.int
      exact zcG pins s σ H _ _ v u Q I rx ry ⟨_, _, rfl, rfl, hc, q _ H (.refl H) (.val (.int _))⟩
    · cases hf
  · cases hf
theorem YU : jV X (unaryOp .USub) (qh X.K (zb .neg)) := by
  rintro pins s σ H x v Q I rx ⟨W, ds, r, wf, hs, hf, q⟩
  obtain ⟨d, rfl, h1⟩ := YS hs
  replace hf : Vw [d] = some r := hf
  unfold Vw at hf
  split at hf
  · rename_i a z; cases z; cases hf
    cases h1.int
    exact zcI pins s σ H _ v Q I rx ⟨_, rfl, q _ H (.refl H) (.val (.int _))⟩
  · cases hf
theorem qm {A : Around} (hu : A.units + 64 < cLine) {d e : D} (h : zE 8 d = true) : A.units + min (zO d).depth (zO e).depth < cLine := by
  have h1 := (xZ 8 d h).2
  have h2 : min (zO d).depth (zO e).depth ≤ (zO d).depth := Nat.min_le_left _ _
  omega
theorem vo (hu : X.A.units + 64 < cLine) : OpR X (compareOp .Eq) (yj X.K (zb .eq)) := by
  rintro pins s σ H x y v u Q I rx ry ⟨W, ds, r, wf, hs, hf, q⟩
  obtain ⟨d, e, rfl, h1, h2⟩ := yZ hs
  replace hf : Zb [d, e] = some r := hf
  simp only [Zb] at hf
  split at hf
  · rename_i hc
    rw [Bool.and_eq_true] at hc
    cases hf
    obtain ⟨as, ra⟩ := h1.reads I hc.1 rx
    obtain ⟨bs, rb⟩ := h2.reads I hc.2 ry
    refine SeqAt.compareEq_reads ra rb (xZ 8 d hc.1).1 (xZ 8 e hc.2).1 (qm hu hc.1) ?_
    rw [YT]
    exact ⟨.bl _, H, I, rfl, q _ H (.refl H) (.val (.bl _))⟩
  · cases hf
theorem qo (hu : X.A.units + 64 < cLine) : OpR X (compareOp .NotEq) (yj X.K (zb .ne)) := by
  rintro pins s σ H x y v u Q I rx ry ⟨W, ds, r, wf, hs, hf, q⟩
  obtain ⟨d, e, rfl, h1, h2⟩ := yZ hs
  replace hf : Zc [d, e] = some r := hf
  simp only [Zc] at hf
  split at hf
  · rename_i hc
    rw [Bool.and_eq_true] at hc
    cases hf
    obtain ⟨as, ra⟩ := h1.reads I hc.1 rx
    obtain ⟨bs, rb⟩ := h2.reads I hc.2 ry
    refine SeqAt.compareNe_reads ra rb (xZ 8 d hc.1).1 (xZ 8 e hc.2).1 (qm hu hc.1) ?_
    rw [YT]
    exact ⟨.bl _, H, I, rfl, q _ H (.refl H) (.val (.bl _))⟩
  · cases hf
theorem qp {A : Around} (hu : A.units + 64 < cLine) {d : D} {l : List PyData} (h : zE 8 d = true) : A.units + 1 + min (PyData.depthAll l) (zO d).depth < cLine := by
  have h1 := (xZ 8 d h).2
  have h2 : min (PyData.depthAll l) (zO d).depth ≤ (zO d).depth := Nat.min_le_right _ _
  omega
theorem qq (hu : X.A.units + 64 < cLine) : OpR X (compareOp .In) (yj X.K (zb .inn)) := by
  rintro pins s σ H x y v u Q I rx ry ⟨W, ds, r, wf, hs, hf, q⟩
  obtain ⟨d, e, rfl, h1, h2⟩ := yZ hs
  replace hf : jl [d, e] = some r := hf
  unfold jl at hf
  split at hf
  · rename_i x t ks vs z; cases z
    split at hf
    · rename_i hk
      cases hf
      cases t with
      | false =>
        cases d with
        | int i =>
          cases h1.int
          obtain ⟨a, ns, ys, rfl, rfl, hH, hl, _⟩ := h2.dK
          cases ry
          exact kK (by omega) I (.inl ⟨_, .inl i, hH, rfl, rfl⟩) rx fun s' I' => ⟨.bl _, H, I', rfl, q _ H (.refl H) (.val (by rw [zeQ hl]; exact .bl _))⟩
        | _ => simp [yP] at hk
      | true =>
        cases d with
        | tup l =>
          obtain ⟨ms, hms⟩ : ∃ ms, ints? l = some ms := by simp only [yP, Option.isSome_iff_exists] at hk; exact hk
          obtain ⟨b, xs, rfl, hb, rp⟩ := h1.tupH
          obtain ⟨a, ns, ys, rfl, rfl, hH, hl, _⟩ := h2.dT
          cases ry
          have e1 := rp.ofInts hms
          have e2 := VM hms
          subst e1 e2
          exact kK (by omega) I (DGet.t (k := ms.map Sum.inl) hH (by rw [hb, qj])) rx fun s' I' => ⟨.bl _, H, I', rfl, q _ H (.refl H) (.val (by rw [zeR hl]; exact .bl _))⟩
        | _ => simp [yP] at hk
    · cases hf
  · rename_i d l z; cases z
    split at hf
    · rename_i hc
      rw [Bool.and_eq_true] at hc
      cases hf
      obtain ⟨as, ra⟩ := h1.reads I hc.1 rx
      obtain ⟨bs, rb⟩ := h2.readsT I hc.2 ry
      simp only [zO] at rb
      refine SeqAt.in_tuple_reads rb ra (Zo (xZ 8) l hc.2).1 (xZ 8 d hc.1).1 (qp hu hc.1) ?_
      rw [VJ]
      exact ⟨.bl _, H, I, rfl, q _ H (.refl H) (.val (.bl _))⟩
    · cases hf
  · rename_i d l z; cases z
    split at hf
    · rename_i hc
      rw [Bool.and_eq_true] at hc
      cases hf
      obtain ⟨as, ra⟩ := h1.reads I hc.1 rx
      obtain ⟨bs, rb⟩ := h2.readsL I hc.2 ry
      simp only [zO] at rb
      refine SeqAt.in_list_reads rb ra (Zo (xZ 8) l hc.2).1 (xZ 8 d hc.1).1 (qp hu hc.1) ?_
      rw [VJ]
      exact ⟨.bl _, H, I, rfl, q _ H (.refl H) (.val (.bl _))⟩
    · cases hf
  · cases hf
theorem VQ : ∀ x y : List Int, LW.lexLt x y = HT.lexLt x y
  | [], [] => rfl
  | [], _ :: _ => rfl
  | _ :: _, [] => rfl
  | a :: x, b :: y => by rw [HT.lexLt_cons, LW.lexLt, VQ x y]
theorem YV (hu : X.A.units + 64 < cLine) : OpR X (compareOp .Lt) (yj X.K (zb .lt)) := by
  rintro pins s σ H x y v u Q I rx ry ⟨W, ds, r, wf, hs, hf, q⟩
  obtain ⟨d, e, rfl, h1, h2⟩ := yZ hs
  replace hf : Zd [d, e] = some r := hf
  unfold Zd at hf
  split at hf
  · rename_i a b z; cases z; cases hf
    cases h1.int; cases h2.int
    exact zcN pins s σ H _ _ v u Q I rx ry ⟨_, _, rfl, rfl, q _ H (.refl H) (.val (.bl _))⟩
  · rename_i a b z; cases z
    simp only [jo1] at hf
    obtain ⟨ns, e1, ms, e2, hf⟩ := hf
    cases hf
    obtain ⟨p, xs, rfl, hp, rp⟩ := h1.tup
    obtain ⟨p2, xs2, rfl, hp2, rp2⟩ := h2.tup
    rw [rp.ofInts e1] at hp
    rw [rp2.ofInts e2] at hp2
    refine zdj (by omega) pins s σ H _ _ v u Q I rx ry ⟨_, _, ns, ms, rfl, rfl, hp, hp2, ?_⟩
    rw [← VQ]
    exact q _ H (.refl H) (.val (.bl _))
  · cases hf
theorem jw : OpR X (compareOp .LtE) (yj X.K (zb .le)) := by
  rintro pins s σ H x y v u Q I rx ry ⟨W, ds, r, wf, hs, hf, q⟩
  obtain ⟨d, e, rfl, h1, h2⟩ := yZ hs
  replace hf : YD [d, e] = some r := hf
  unfold YD at hf
  split at hf
  · rename_i a b z; cases z; cases hf
    cases h1.int; cases h2.int
    exact zcO pins s σ H _ _ v u Q I rx ry ⟨_, _, rfl, rfl, q _ H (.refl H) (.val (.bl _))⟩
  · cases hf
theorem zeU (hu : X.A.units < cLine) {pins : List (Addr × Obj)} {s : Shared} {σ : St} {H : Hp} {a b : Addr} {ns ms : List Int} {Q : VK} (I : Inv X pins σ H s) (ha : SqT X.K H a (ns.map V.int)) (hb : SqT X.K H b (ms.map V.int)) (q : Q (.bl (HT.lexLt ms ns)) H) :
    wpAny (model X.prog X.w) X.A (compareOp .Gt (.ref a) (.ref b)) (EP X pins σ Q) X.xe s := by
  obtain ⟨its, r1, p1, _⟩ := I.tuple ha
  obtain ⟨its2, r2, p2, _⟩ := I.tuple hb
  have i1 : IntsAre its.toArray.toList ns := jX r1
  have i2 : IntsAre its2.toArray.toList ms := jX r2
  exact HT.gt_tupInts p1 p2 i1 i2 hu ⟨.bl (HT.lexLt ms ns), H, I, rfl, q⟩
theorem VS (hu : X.A.units + 64 < cLine) : OpR X (compareOp .Gt) (yj X.K (zb .gt)) := by
  rintro pins s σ H x y v u Q I rx ry ⟨W, ds, r, wf, hs, hf, q⟩
  obtain ⟨d, e, rfl, h1, h2⟩ := yZ hs
  replace hf : YF [d, e] = some r := hf
  unfold YF at hf
  split at hf
  · rename_i a b z; cases z; cases hf
    cases h1.int; cases h2.int
    exact zcP pins s σ H _ _ v u Q I rx ry ⟨_, _, rfl, rfl, q _ H (.refl H) (.val (.bl _))⟩
  · rename_i a b z; cases z
    simp only [jo1] at hf
    obtain ⟨ns, e1, ms, e2, hf⟩ := hf
    cases hf
    obtain ⟨p, xs, rfl, hp, rp⟩ := h1.tup
    obtain ⟨p2, xs2, rfl, hp2, rp2⟩ := h2.tup
    rw [rp.ofInts e1] at hp
    rw [rp2.ofInts e2] at hp2
    cases rx
    cases ry
    refine zeU (by omega) I hp hp2 ?_
    rw [← VQ]
    exact q _ H (.refl H) (.val (.bl _))
  · cases hf
theorem qr {K : PySem.W.Frag} {W : Addr → Prop} {H : Hp} {ds : List D} {xs : List V} {i : Int} {d : D} (r : Reps K W H ds xs) (h : LW.atI ds i = some d) : ∃ x, L2.atI xs i = some x ∧ Rep K W H d x := by
  unfold LW.atI at h
  unfold L2.atI
  rw [jo1] at h
  obtain ⟨j, h1, h2⟩ := h
  obtain ⟨x, e, q⟩ := r.get h2
  refine ⟨x, ?_, q⟩
  rw [← r.length]
  rw [jo1]
  exact ⟨j, h1, e⟩
theorem qt {value slice : Expr} {pins : List (Addr × Obj)} {s : Shared} {σ : St} {H : Hp} {a : Addr} {y v : V} {u : Value} {Q : VK} (hu : X.A.units + 64 < cLine) (I : Inv X pins σ H s) (g : DGet H a y (some v)) (ry : RelV y u) (q : Q v H)
    (hs : subscripted slice false (.ref a) u = operate [.ref a, u] (getItem (.ref a) u)) : wpAny (model X.prog X.w) X.A (subscriptTail value slice (.ref a) u) (EP X pins σ Q) X.xe s := by
  have hT := zdA I g
  unfold subscriptTail
  refine wpAny_bind ?_
  rw [getitemInPython_of_ne hT.not_modules]
  refine wpAny_bind (wpAny_specialOf hT PySem.F.slot_dict_getitem.lookup ?_)
  have fin : wpAny (model X.prog X.w) X.A (subscripted slice false (.ref a) u) (fun r s₃ => wpAny (model X.prog X.w) X.A (letTemporaryGo value (.ref a) r >>= fun _ => pure r) (EP X pins σ Q) X.xe s₃) X.xe s := by
    rw [hs]
    refine wpAny_operating (wpAny_mono (zdz (Q := EP X pins σ Q) (by omega) I g ry fun w' s' I' rv => ⟨v, H, I', rv, q⟩) (fun r s₃ h₃ => wpAny_bind (wpAny_letTemporaryGo (wpAny_pure h₃))) fun _ _ x => x)
  first
    | exact wpAny_pure (wpAny_bind fin)
    | exact wpAny_bind (wpAny_pure (wpAny_bind fin))
    | exact wpAny_pure (wpAny_bind (wpAny_pure (wpAny_bind fin)))
    | exact wpAny_bind (wpAny_bind (wpAny_pure fin))
theorem zeV (hu : X.A.units + 64 < cLine) : IxR X (yj X.K (zb .idx)) := by
  rintro value slice pins s σ H x y v u Q I rx ry ⟨W, ds, r, wf, hs, hf, q⟩ hsub
  obtain ⟨d, e, rfl, h1, h2⟩ := yZ hs
  replace hf : Vx [d, e] = some r := hf
  unfold Vx at hf
  split at hf
  · rename_i t ks vs k z; cases z
    split at hf
    · rename_i hk
      rw [jo2] at hf
      obtain ⟨d', e1, rfl⟩ := hf
      cases t with
      | false =>
        cases e with
        | int i =>
          cases h2.int
          obtain ⟨a, ns, ys, rfl, rfl, hH, hl, rp⟩ := h1.dK
          cases rx
          obtain ⟨y, e2, ry'⟩ := zeS hl rp e1
          exact qt hu I (by rw [← e2]; exact .inl ⟨_, .inl i, hH, rfl, rfl⟩) ry (q _ H (.refl H) (.val ry')) hsub
        | _ => simp [yP] at hk
      | true =>
        cases e with
        | tup l =>
          obtain ⟨ms, hms⟩ : ∃ ms, ints? l = some ms := by simp only [yP, Option.isSome_iff_exists] at hk; exact hk
          obtain ⟨b, xs, rfl, hb, rpb⟩ := h2.tupH
          obtain ⟨a, ns, ys, rfl, rfl, hH, hl, rp⟩ := h1.dT
          cases rx
          have z1 := rpb.ofInts hms
          have z2 := VM hms
          subst z1 z2
          obtain ⟨y, e2, ry'⟩ := zeT hl rp e1
          exact qt hu I (by rw [← e2]; exact DGet.t (k := ms.map Sum.inl) hH (by rw [hb, qj])) ry (q _ H (.refl H) (.val ry')) hsub
        | _ => simp [yP] at hk
    · cases hf
  · rename_i l i z; cases z
    rw [jo2] at hf
    obtain ⟨d, e1, rfl⟩ := hf
    obtain ⟨p, xs, rfl, hp, rp⟩ := h1.tup
    cases h2.int
    obtain ⟨z, e2, rz⟩ := qr rp e1
    exact zdp value slice pins s σ H _ _ v u Q I rx ry ⟨p, xs, i, z, rfl, rfl, hp, e2, q _ H (.refl H) (.val rz)⟩ hsub
  · rename_i l i z; cases z
    rw [jo2] at hf
    obtain ⟨d, e1, rfl⟩ := hf
    obtain ⟨p, xs, rfl, hp, rp⟩ := h1.lst
    cases h2.int
    obtain ⟨z, e2, rz⟩ := qr rp e1
    exact zdo value slice pins s σ H _ _ v u Q I rx ry ⟨p, xs, i, z, rfl, rfl, hp, e2, q _ H (.refl H) (.val rz)⟩ hsub
  · cases hf
theorem wT : CallR X (.builtin "len") (VR X.K (zb .len)) := by
  rintro pins s σ H xs us Q I rv ⟨W, ds, r, wf, hs, hf, q⟩
  replace hf : Vy ds = some r := hf
  unfold Vy at hf
  split at hf
  · cases hf
    cases hs with
    | cons h1 t =>
      cases t
      obtain ⟨p, ys, rfl, hp, rp⟩ := h1.tup
      refine kC pins s σ H _ us Q I rv ⟨p, ys, rfl, .inr hp, ?_⟩
      rw [← rp.length]
      exact q _ H (.refl H) (.val (.int _))
  · cases hf
    cases hs with
    | cons h1 t =>
      cases t
      obtain ⟨p, ys, rfl, hp, rp⟩ := h1.lst
      refine kC pins s σ H _ us Q I rv ⟨p, ys, rfl, .inl hp, ?_⟩
      rw [← rp.length]
      exact q _ H (.refl H) (.val (.int _))
  · cases hf
theorem VT : CallR X (.type "tuple") (VR X.K (zb .toTup)) := by
  rintro pins s σ H xs us Q I rv ⟨W, ds, r, wf, hs, hf, q⟩
  replace hf : Vz ds = some r := hf
  unfold Vz at hf
  split at hf
  · cases hf
    cases hs with
    | cons h1 t =>
      cases t
      obtain ⟨p, ys, rfl, hp, rp⟩ := h1.tupH
      exact kD pins s σ H _ us Q I rv ⟨p, ys, rfl, .inr ⟨.of hp, q _ H (.refl H) (.val (.tup hp rp))⟩⟩
  · cases hf
    cases hs with
    | cons h1 t =>
      cases t
      obtain ⟨p, ys, rfl, hp, rp⟩ := h1.lst
      exact kD pins s σ H _ us Q I rv ⟨p, ys, rfl, .inl ⟨hp, fun l hl => q _ _ (xR hl _) (qi hl rp)⟩⟩
  · cases hf
end
end L2.LW
set_option maxHeartbeats 4000000
namespace L2.LW
open PySem PySem.Spec PyProof.Rows
structure IE (X : Cx) (fn : Nat → List D → Option SV) (e : Expr) (c : E) : Prop where
  h : PE X e (tE X.K fn c)
structure IA (X : Cx) (fn : Nat → List D → Option SV) (es : List Expr) (cs : Es) : Prop where
  h : PA X es (qg X.K fn cs)
structure IT (X : Cx) (fn : Nat → List D → Option SV) (e : Expr) (c : E) : Prop where
  h : PT X e (tT X.K fn c)
structure IW (X : Cx) (fn : Nat → List D → Option SV) (e : Expr) (c : E) : Prop where
  h : PW X e (tT X.K fn c)
theorem Res.back {K : PySem.W.Frag} {W : Addr → Prop} {H H1 H2 : Hp} {r : SV} {v : V} (h : Res K W H1 H2 r v) (s : Same H H1) : Res K W H H2 r v := by
  cases h with
  | val h => exact .val h
  | new h e r => exact .new (s.free h) e r
  | see h e r => exact .see h e r
theorem R.wf' {K : PySem.W.Frag} {W : Addr → Prop} {ρ : LW.Env} {σ : St} {H H' : Hp} (r : R K W ρ σ H) (s : Same H H') : Wf W H' := (r.same s).wf
theorem qu {K : PySem.W.Frag} {W : Addr → Prop} {H : Hp} : ∀ {rs : List SV} {vs : List V}, Paired (Frz K W H) rs vs → Paired (Sees K W H) (rs.map zu) vs
  | _, _, .nil => .nil
  | _, _, .cons h t => .cons h.sees (qu t)
theorem VU {K : PySem.W.Frag} {W : Addr → Prop} {H : Hp} : ∀ {rs : List SV} {vs : List V} {ds : List D}, Paired (Frz K W H) rs vs → xi rs = some ds → Reps K W H ds vs
  | _, _, _, .nil, e => by simp [xi] at e; subst e; exact .nil
  | _, _, _, .cons h t, e => by
    simp only [xi, jo1, jo2] at e
    obtain ⟨d, e1, ds, e2, rfl⟩ := e
    exact .cons (h.toD e1) (VU t e2)
section
variable {es : List Expr} {env : PySem.Env}
theorem ze {a b} : starEach (.Name a b :: es) env = (false, eval (.Name a b) env) :: starEach es env := rfl
theorem zB {a b c} : starEach (.Constant a b c :: es) env = (false, eval (.Constant a b c) env) :: starEach es env := rfl
theorem ym {a b c d} : starEach (.BinOp a b c d :: es) env = (false, eval (.BinOp a b c d) env) :: starEach es env := rfl
theorem qv {a b c d} : starEach (.Compare a b c d :: es) env = (false, eval (.Compare a b c d) env) :: starEach es env := rfl
theorem wU {a b c d} : starEach (.Call a b c d :: es) env = (false, eval (.Call a b c d) env) :: starEach es env := rfl
theorem yI {a b c} : starEach (.Subscript a b c :: es) env = (false, eval (.Subscript a b c) env) :: starEach es env := rfl
theorem VV {a b c} : starEach (.Tuple a b c :: es) env = (false, eval (.Tuple a b c) env) :: starEach es env := rfl
theorem zeW {a b} : starEach (.List a b :: es) env = (false, eval (.List a b) env) :: starEach es env := rfl
theorem xw {a b c d} : starEach (.ListComp a b c d :: es) env = (false, eval (.ListComp a b c d) env) :: starEach es env := rfl
theorem zo {pos : Pos} : (backTo pos (starEach [] env)).any (·.1) = false := rfl
theorem zR {pos : Pos} {e : Expr} (h : starEach (e :: es) env = (false, eval e env) :: starEach es env) (t : (backTo pos (starEach es env)).any (·.1) = false) : (backTo pos (starEach (e :: es) env)).any (·.1) = false := by
  rw [h]; simpa [backTo] using t
theorem zeX {a b} : ∀ whole, isTrue (.Name a b) env whole = (do let v ← whole; standAt (Expr.Name a b).pos; holding [v] (truthy v)) := fun _ => rfl
theorem wV {a b c d} : ∀ whole, isTrue (.Call a b c d) env whole = (do let v ← whole; standAt (Expr.Call a b c d).pos; holding [v] (truthy v)) := fun _ => rfl
end
section
variable {X : Cx} {fn : Nat → List D → Option SV} {a b c e : Expr} {ca cb cc ce : E} {es : List Expr} {cs : Es} {pos p : Pos} {x : Str}
theorem IE.v (h : IE X fn e ce) : PE X e (tV X.K fn ce) := h.h.imp fun σ H Q ⟨W, ρ, r, hR, he, q⟩ => ⟨W, ρ, r, hR, he, fun v H' s x => q v H' s (x.frz hR.wf)⟩
theorem zj {i : Int} {j : Nat} : IE X fn (.Constant (.int i) j pos) (.int i) := .mk <| zbX.imp fun σ H Q zz3 => by
  obtain ⟨W, ρ, r, hR, he, q⟩ := zz3
  simp only [qa] at he; cases he; exact q _ H (.refl H) (.val (.int i))
theorem YW {i : Bool} {j : Nat} : IE X fn (.Constant (.bool i) j pos) (.bl i) := .mk <| QP.imp fun σ H Q zz3 => by
  obtain ⟨W, ρ, r, hR, he, q⟩ := zz3
  simp only [zei] at he; cases he; exact q _ H (.refl H) (.val (.bl i))
theorem Zq {j : Nat} : IE X fn (.Constant .none j pos) .non := .mk <| zbY.imp fun σ H Q zz3 => by
  obtain ⟨W, ρ, r, hR, he, q⟩ := zz3
  simp only [zej] at he; cases he; exact q _ H (.refl H) (.val .non)
theorem yC {i : Str} {j : Nat} : IE X fn (.Constant (.str i) j pos) (.str i) := .mk <| jg.imp fun σ H Q zz3 => by
  obtain ⟨W, ρ, r, hR, he, q⟩ := zz3
  simp only [zek] at he; cases he; exact q _ H (.refl H) (.val (.str i))
theorem zd (i : Nat) (hN : X.N[i]? = some x) (hv : xX X.env.scope x) (hd : (x == ("__debug__" : Str)) = false := by decide) (hcd : (x == ("__classdict__" : Str)) = false := by decide) : IE X fn (.Name x pos) (.var i) :=
  .mk <| (Yj hN hv hd hcd).imp fun σ H Q zz3 => by
    obtain ⟨W, ρ, r, hR, he, q⟩ := zz3
    simp only [zel] at he
    obtain ⟨v, h1, _, h3⟩ := hR.look he
    exact ⟨v, h1, q v H (.refl H) h3⟩
theorem VW {i : Int} {t : Tok} (hg : Gl X x) (hm : X.mg x = some (.int i t)) (hd : (x == ("__debug__" : Str)) = false := by decide) : IE X fn (.Name x pos) (.int i) :=
  .mk <| (zbZ hg hm (v := .int i) ⟨t, rfl⟩ hd).imp fun σ H Q zz3 => by
    obtain ⟨W, ρ, r, hR, he, q⟩ := zz3
    simp only [qa] at he; cases he; exact q _ H (.refl H) (.val (.int i))
theorem zl : IA X fn [] .nil := .mk <| vi.imp fun σ H Q zz3 => by
  obtain ⟨W, ρ, rs, hR, he, q⟩ := zz3
  simp only [yW] at he; cases he; exact q _ H (.refl H) .nil
theorem zg (ha : IE X fn e ce) (hr : IA X fn es cs) (hs : starEach (e :: es) X.env = (false, eval e X.env) :: starEach es X.env := by rfl) : IA X fn (e :: es) (.cons ce cs) :=
  .mk <| (wB ha.v hr.h hs).imp fun σ H Q zz3 => by
    obtain ⟨W, ρ, rs, hR, he, q⟩ := zz3
    simp only [yX, jo1, jo2] at he
    obtain ⟨r, e1, rs', e2, rfl⟩ := he
    exact ⟨W, ρ, r, hR, e1, fun v H1 s1 f1 => ⟨W, ρ, rs', hR.same s1, e2, fun vs H2 s2 f2 => q _ H2 (s1.trans s2) (.cons (f1.same s2) f2)⟩⟩
theorem vL {K : PySem.W.Frag} {p : Prim} {W : Addr → Prop} {ρ : LW.Env} {σ : St} {H H1 : Hp} {Q : VK} {rs : List SV} {vs : List V} {r : SV} (hR : R K W ρ σ H) (s1 : Same H H1) (f : Paired (Frz K W H1) rs vs)
    (e : zb p (rs.map zu) = some r) (q : ∀ v H', Same H H' → Res K W H H' r v → Q v H') : VR K (zb p) vs H1 Q :=
  ⟨W, rs.map zu, r, hR.wf' s1, qu f, e, fun v H' s2 h => q v H' (s1.trans s2) (h.back s1)⟩
theorem Zr {K : PySem.W.Frag} {p : Prim} {ρ : LW.Env} {σ : St} {H : Hp} {Q : VK} {W : Addr → Prop} {r : SV} (hR : R K W ρ σ H) (he : zf fn (.prim p (.cons ca (.cons cb .nil))) ρ = some r) (q : ∀ v H', Same H H' → Res K W H H' r v → Q v H') :
    jW (yj K (zb p)) (tV K fn ca) (tV K fn cb) σ H Q := by
  simp only [xE, yW, yX, jo1, jo2] at he
  obtain ⟨rs, ⟨r1, e1, rs', ⟨r2, e2, rs'', e3, rfl⟩, rfl⟩, e4⟩ := he
  cases e3
  exact ⟨W, ρ, r1, hR, e1, fun v1 H1 s1 f1 => ⟨W, ρ, r2, hR.same s1, e2, fun v2 H2 s2 f2 => vL hR (s1.trans s2) (.cons (f1.same s2) (.cons f2 .nil)) e4 q⟩⟩
theorem zD {op : Operator} {pr : Prim} (ho : OpR X (binaryOp op) (yj X.K (zb pr))) (ha : IE X fn a ca) (hb : IE X fn b cb) : IE X fn (.BinOp a op b pos) (.prim pr (.cons ca (.cons cb .nil))) :=
  .mk <| (zcB ho ha.v hb.v).imp fun σ H Q ⟨W, ρ, r, hR, he, q⟩ => Zr hR he q
theorem YX {op : UnaryOp} {pr : Prim} (ho : jV X (unaryOp op) (qh X.K (zb pr))) (ha : IE X fn a ca) : IE X fn (.UnaryOp op a pos) (.prim pr (.cons ca .nil)) :=
  .mk <| (zcC ho ha.v).imp fun σ H Q zz3 => by
    obtain ⟨W, ρ, r, hR, he, q⟩ := zz3
    simp only [xE, yW, yX, jo1, jo2] at he
    obtain ⟨rs, ⟨r1, e1, rs', e3, rfl⟩, e4⟩ := he
    cases e3
    exact ⟨W, ρ, r1, hR, e1, fun v1 H1 s1 f1 => vL hR s1 (.cons f1 .nil) e4 q⟩
theorem Zs {op : CmpOp} {pr : Prim} (ho : OpR X (compareOp op) (yj X.K (zb pr))) (ha : IE X fn a ca) (hb : IE X fn b cb) (hm : behindInMarks op b = false) : IE X fn (.Compare a [op] [b] pos) (.prim pr (.cons ca (.cons cb .nil))) :=
  .mk <| (zcS ho ha.v hb.v hm).imp fun σ H Q ⟨W, ρ, r, hR, he, q⟩ => Zr hR he q
theorem yt (hu : X.A.units + 64 < cLine) (ha : IE X fn a ca) (hb : IE X fn b cb) (hs : Vs b) : IE X fn (.Subscript a b pos) (.prim .idx (.cons ca (.cons cb .nil))) :=
  .mk <| (kA (zeV hu) ha.v hb.v hs).imp fun σ H Q ⟨W, ρ, r, hR, he, q⟩ => Zr hR he q
theorem qw {K : PySem.W.Frag} {pr : Prim} {ρ : LW.Env} {σ : St} {H : Hp} {Q : VK} {W : Addr → Prop} {r : SV} (hR : R K W ρ σ H) (he : zf fn (.prim pr cs) ρ = some r) (q : ∀ v H', Same H H' → Res K W H H' r v → Q v H') :
    Vp (VR K (zb pr)) (qg K fn cs) σ H Q := by
  simp only [xE, jo1] at he
  obtain ⟨rs, e1, e2⟩ := he
  exact ⟨W, ρ, rs, hR, e1, fun vs H1 s1 f => vL hR s1 f e2 q⟩
theorem yx {id : String} {pr : Prim} (hc : CallR X (.builtin id) (VR X.K (zb pr))) (hg : Gl X x) (hm : X.mg x = none) (hv : bootBuiltins x = some (.builtin id)) (ha : IA X fn (e :: es) cs) (hn : x ≠ "__name__" := by decide) (hdb : (x == ("__debug__" : Str)) = false := by decide)
    (he : starEach (e :: es) X.env = (false, eval e X.env) :: starEach es X.env := by rfl) (hpl : (backTo pos (starEach es X.env)).any (·.1) = false := by rfl) : IE X fn (.Call (.Name x p) (e :: es) [] pos) (.prim pr cs) :=
  .mk <| (Vq hc hg hm hv ha.h hn hdb he hpl).imp fun σ H Q ⟨W, ρ, r, hR, h, q⟩ => qw hR h q
theorem YY {T : String} {pr : Prim} (hc : CallR X (.type T) (VR X.K (zb pr))) (hg : Gl X x) (hm : X.mg x = none) (hv : bootBuiltins x = some (.type T)) (ha : IA X fn (e :: es) cs) (hn : x ≠ "__name__" := by decide) (hdb : (x == ("__debug__" : Str)) = false := by decide)
    (he : starEach (e :: es) X.env = (false, eval e X.env) :: starEach es X.env := by rfl) (hpl : (backTo pos (starEach es X.env)).any (·.1) = false := by rfl) : IE X fn (.Call (.Name x p) (e :: es) [] pos) (.prim pr cs) :=
  .mk <| (zdb hc hg hm hv ha.h hn hdb he hpl).imp fun σ H Q ⟨W, ρ, r, hR, h, q⟩ => qw hR h q
theorem VX {K : PySem.W.Frag} {W : Addr → Prop} {H : Hp} : ∀ {rs : List SV} {ds : List D}, xi rs = some ds → ds.length = rs.length
  | [], _, e => by simp [xi] at e; subst e; rfl
  | r :: rs, _, e => by
    simp only [xi, jo1, jo2] at e
    obtain ⟨d, e1, ds, e2, rfl⟩ := e
    simp [VX (K := K) (W := W) (H := H) e2]
noncomputable def Zt : Es → Nat
  | .nil => 0
  | .cons _ r => Zt r + 1
theorem VY : ∀ {cs : Es} {ρ : LW.Env} {rs : List SV}, zN fn cs ρ = some rs → rs.length = Zt cs
  | .nil, _, _, e => by simp only [yW] at e; cases e; rfl
  | .cons c cs, _, _, e => by
    simp only [yX, jo1, jo2] at e
    obtain ⟨r, e1, rs', e2, rfl⟩ := e
    simp [Zt, VY e2]
theorem jx {k : Nat} (h : IA X fn es cs) (hl : Zt cs ≤ 1000 := by decide) : IE X fn (.Tuple es k pos) (.tup cs) :=
  .mk <| (zc6 h.h).imp fun σ H Q zz3 => by
    obtain ⟨W, ρ, r, hR, he, q⟩ := zz3
    simp only [zem, jo1, jo2] at he
    obtain ⟨rs, e1, ds, e2, rfl⟩ := he
    refine ⟨W, ρ, rs, hR, e1, fun vs H1 s1 f => ?_⟩
    have r1 := VU f e2
    have l1 := r1.length
    have l2 := VX (K := X.K) (W := W) (H := H) e2
    have l3 := VY e1
    exact ⟨Nat.le_of_lt (kM (by omega)), fun p hp => q _ _ (s1.trans (xR hp _)) ((qi hp r1).back s1)⟩
theorem vM (h : IA X fn es cs) (hl : Zt cs ≤ 1000 := by decide) : IE X fn (.List es pos) (.lst cs) :=
  .mk <| (zc7 h.h).imp fun σ H Q zz3 => by
    obtain ⟨W, ρ, r, hR, he, q⟩ := zz3
    simp only [zen, jo1, jo2] at he
    obtain ⟨rs, e1, ds, e2, rfl⟩ := he
    refine ⟨W, ρ, rs, hR, e1, fun vs H1 s1 f => ?_⟩
    have r1 := VU f e2
    have l1 := r1.length
    have l2 := VX (K := X.K) (W := W) (H := H) e2
    have l3 := VY e1
    exact ⟨Nat.le_of_lt (kM (by omega)), fun p hp => q _ _ (s1.trans (xR hp _)) ((Zp hp r1).back s1)⟩
theorem Zu {op : BoolOp} (h : IE X fn a ca) : IE X fn (.BoolOp op [a] pos) ca := .mk (zca h.h)
theorem jy {zX : List Expr} (ha : IE X fn a ca) (hb : IE X fn (.BoolOp .And (b :: zX) pos) cb) : IE X fn (.BoolOp .And (a :: b :: zX) pos) (.and ca cb) :=
  .mk <| (zcb ha.h hb.h).imp fun σ H Q zz3 => by
    obtain ⟨W, ρ, r, hR, he, q⟩ := zz3
    simp only [zeo, jo1] at he
    obtain ⟨r1, e1, e2⟩ := he
    refine ⟨W, ρ, r1, hR, e1, fun v H1 s1 f => ?_⟩
    split at e2
    · cases f with
      | val h =>
        cases h
        exact ⟨true, rfl, by rw [if_pos rfl]; exact ⟨W, ρ, r, hR.same s1, e2, fun v H2 s2 h => q v H2 (s1.trans s2) (h.back s1)⟩⟩
    · cases f with
      | val h =>
        cases h; cases e2
        exact ⟨false, rfl, by rw [if_neg Bool.false_ne_true]; exact q _ H1 s1 (.val (.bl false))⟩
    · cases e2
theorem zeY (hc : IT X fn c cc) (ha : IE X fn a ca) (hb : IE X fn b cb) : IE X fn (.IfExp c a b pos) (.ite cc ca cb) :=
  .mk <| (zcd hc.h ha.h hb.h).imp fun σ H Q zz3 => by
    obtain ⟨W, ρ, r, hR, he, q⟩ := zz3
    simp only [zeq, jo1] at he
    obtain ⟨k, e1, e2⟩ := he
    refine ⟨W, ρ, k, hR, e1, fun H1 s1 => ?_⟩
    cases k with
    | true => rw [if_pos rfl] at e2 ⊢; exact ⟨W, ρ, r, hR.same s1, e2, fun v H2 s2 h => q v H2 (s1.trans s2) (h.back s1)⟩
    | false => rw [if_neg Bool.false_ne_true] at e2 ⊢; exact ⟨W, ρ, r, hR.same s1, e2, fun v H2 s2 h => q v H2 (s1.trans s2) (h.back s1)⟩
theorem zeZ {op op' : CmpOp} {p q : Prim} (ho : OpR X (compareOp op) (yj X.K (zb p))) (ho' : OpR X (compareOp op') (yj X.K (zb q))) (ha : IE X fn a ca) (hb : IE X fn b cb) (hc : IE X fn c cc)
    (hm : lastMarks [op, op'] [b, c] = false := by with_unfolding_all rfl) : IE X fn (.Compare a [op, op'] [b, c] pos) (.chain p q ca cb cc) :=
  .mk <| (zcU ho ho' ha.v hb.v hc.v hm).imp fun σ H Q zz3 => by
    obtain ⟨W, ρ, r, hR, he, hq⟩ := zz3
    simp only [zep, jo1] at he
    obtain ⟨r1, e1, r2, e2, z, e3, e4⟩ := he
    refine ⟨W, ρ, r1, hR, e1, fun v1 H1 s1 f1 => ⟨W, ρ, r2, hR.same s1, e2, fun v2 H2 s2 f2 => ?_⟩⟩
    refine ⟨W, _, z, hR.wf' (s1.trans s2), .cons (f1.same s2).sees (.cons f2.sees .nil), e3, fun v H3 s3 h3 => ?_⟩
    split at e4
    · cases h3 with
      | val h3 =>
        cases h3
        simp only [jo1] at e4
        obtain ⟨r3, e5, e6⟩ := e4
        refine ⟨true, rfl, ?_⟩
        rw [if_pos rfl]
        have s13 := (s1.trans s2).trans s3
        refine ⟨W, ρ, r3, hR.same s13, e5, fun v4 H4 s4 f4 => ?_⟩
        exact ⟨W, _, r, hR.wf' (s13.trans s4), .cons ((f2.same s3).same s4).sees (.cons f4.sees .nil), e6, fun v5 H5 s5 h5 => hq v5 H5 (s13.trans (s4.trans s5)) (h5.back (s13.trans s4))⟩
    · cases h3 with
      | val h3 =>
        cases h3; cases e4
        exact ⟨false, rfl, by rw [if_neg Bool.false_ne_true]; exact hq _ H3 ((s1.trans s2).trans s3) (.val (.bl false))⟩
    · cases e4
theorem IW.t (h : IW X fn e ce) : IT X fn e ce := .mk (PW.pt h.h)
theorem vp (h : IT X fn a ca) : IW X fn (.BoolOp .Or [a] pos) ca := .mk (zb6 h.h)
theorem wt {zX : List Expr} (ha : IT X fn a ca) (hb : IW X fn (.BoolOp .Or (b :: zX) pos) cb) : IW X fn (.BoolOp .Or (a :: b :: zX) pos) (.or ca cb) :=
  .mk <| (zb7 ha.h hb.h).imp fun σ H Q zz3 => by
    obtain ⟨W, ρ, k, hR, he, q⟩ := zz3
    simp only [zer, jo1] at he
    obtain ⟨k1, e1, e2⟩ := he
    refine ⟨W, ρ, k1, hR, e1, fun H1 s1 => ?_⟩
    cases k1 with
    | true => rw [if_pos rfl] at e2 ⊢; cases e2; exact q H1 s1
    | false => rw [if_neg Bool.false_ne_true] at e2 ⊢; exact ⟨W, ρ, k, hR.same s1, e2, fun H2 s2 => q H2 (s1.trans s2)⟩
theorem wD (ha : IT X fn a ca) : IT X fn (.UnaryOp .Not a pos) (.not ca) :=
  .mk <| (zb8 ha.h).imp fun σ H Q zz3 => by
    obtain ⟨W, ρ, k, hR, he, q⟩ := zz3
    simp only [zes, jo2] at he
    obtain ⟨k1, e1, rfl⟩ := he
    exact ⟨W, ρ, k1, hR, e1, fun H1 s1 => q H1 s1⟩
noncomputable def YZ : Prim → Bool
  | .inS => true | .ninS => true | .eq => true | .ne => true | .lt => true | .le => true | .gt => true | .ge => true | .inn => true | .nin => true | .isN => true | .notN => true | .eqS => true | .neS => true
  | _ => false
theorem VZ {b : Bool} {r : SV} (h : ye b = some r) : r = .val (.bl b) := by cases h; rfl
theorem qx {p : Prim} (hp : YZ p = true) {ds : List D} {r : SV} (h : zb p ds = some r) : ∃ b, r = .val (.bl b) := by
  cases p <;> first | cases hp | skip
  all_goals
    simp only [zb] at h
    first | unfold kR at h | unfold jm at h | unfold jo at h | unfold YK at h | unfold Zb at h | unfold Zc at h | unfold Zd at h | unfold YD at h | unfold YF at h | unfold kO at h | unfold jl at h | unfold YG at h | unfold kP at h | unfold kQ at h
    split at h
    all_goals first
      | exact ⟨_, VZ h⟩
      | cases h
      | (split at h <;> first | exact ⟨_, VZ h⟩ | cases h)
      | (simp only [jo1] at h; obtain ⟨_, _, _, _, h⟩ := h; exact ⟨_, VZ h⟩)
theorem yy {op : CmpOp} {pr : Prim} (hp : YZ pr = true) (ho : OpR X (compareOp op) (yj X.K (zb pr))) (ha : IE X fn a ca) (hb : IE X fn b cb) (hm : behindInMarks op b = false) : IT X fn (.Compare a [op] [b] pos) (.prim pr (.cons ca (.cons cb .nil))) :=
  .mk <| (zcT ho ha.v hb.v hm).imp fun σ H Q zz3 => by
    obtain ⟨W, ρ, k, hR, he, q⟩ := zz3
    have he' : (zf fn (.prim pr (.cons ca (.cons cb .nil))) ρ).bind yc = some k := by
      rw [VG] at he
      rw [xE]
      simp only [jo1] at he ⊢
      obtain ⟨rs, e1, r, e2, e3⟩ := he
      exact ⟨r, ⟨rs, e1, e2⟩, e3⟩
    rw [jo1] at he'
    obtain ⟨r, e1, e2⟩ := he'
    have e1' := e1
    rw [xE] at e1'
    simp only [jo1] at e1'
    obtain ⟨rs, _, e3⟩ := e1'
    obtain ⟨b, rfl⟩ := qx hp e3
    simp only [yc] at e2
    cases e2
    exact Zr hR e1 fun v H' s h => by
      cases h with
      | val h => cases h; exact ⟨_, rfl, q H' s⟩
theorem qy {op op' : CmpOp} {p q : Prim} (hp : YZ p = true) (hq' : YZ q = true) (ho : OpR X (compareOp op) (yj X.K (zb p))) (ho' : OpR X (compareOp op') (yj X.K (zb q))) (ha : IE X fn a ca) (hb : IE X fn b cb) (hc : IE X fn c cc)
    (hm : lastMarks [op, op'] [b, c] = false := by with_unfolding_all rfl) : IT X fn (.Compare a [op, op'] [b, c] pos) (.chain p q ca cb cc) :=
  .mk <| (zcV ho ho' ha.v hb.v hc.v hm).imp fun σ H Q zz3 => by
    obtain ⟨W, ρ, k, hR, he, hq⟩ := zz3
    simp only [zeu, jo1] at he
    obtain ⟨r1, e1, r2, e2, z, e3, e4⟩ := he
    refine ⟨W, ρ, r1, hR, e1, fun v1 H1 s1 f1 => ⟨W, ρ, r2, hR.same s1, e2, fun v2 H2 s2 f2 => ?_⟩⟩
    refine ⟨W, _, z, hR.wf' (s1.trans s2), .cons (f1.same s2).sees (.cons f2.sees .nil), e3, fun v H3 s3 h3 => ?_⟩
    split at e4
    · cases h3 with
      | val h3 =>
        cases h3
        simp only [jo1] at e4
        obtain ⟨r3, e5, r4, e6, e7⟩ := e4
        refine ⟨true, rfl, ?_⟩
        rw [if_pos rfl]
        have s13 := (s1.trans s2).trans s3
        refine ⟨W, ρ, r3, hR.same s13, e5, fun v4 H4 s4 f4 => ?_⟩
        refine ⟨W, _, r4, hR.wf' (s13.trans s4), .cons ((f2.same s3).same s4).sees (.cons f4.sees .nil), e6, fun v5 H5 s5 h5 => ?_⟩
        obtain ⟨b5, rfl⟩ := qx hq' e6
        simp only [yc] at e7
        cases e7
        cases h5 with
        | val h5 => cases h5; exact ⟨_, rfl, hq H5 (s13.trans (s4.trans s5))⟩
    · cases h3 with
      | val h3 =>
        cases h3; cases e4
        exact ⟨false, rfl, by rw [if_neg Bool.false_ne_true]; exact ⟨false, rfl, hq H3 ((s1.trans s2).trans s3)⟩⟩
    · cases e4
theorem ze0 {K : PySem.W.Frag} {W : Addr → Prop} {H : Hp} {r : SV} {v : V} {k : Bool} (f : Frz K W H r v) (h : yc r = some k) : Vo K v H k := by
  unfold yc at h
  split at h
  · cases h; cases f with | val f => cases f; rfl
  · cases h; cases f with | val f => cases f; rfl
  · cases h; cases f with | val f => cases f; rfl
  · rename_i l
    cases h
    obtain ⟨a, xs, rfl, hq, rp⟩ := Frz.sees f |>.tup
    refine .inr (.inl ⟨xs, hq, ?_⟩)
    cases rp <;> rfl
  · cases h
    obtain ⟨a, xs, rfl, hq, rp⟩ := Frz.sees f |>.lst
    refine .inl ⟨xs, hq, ?_⟩
    cases rp <;> rfl
  · cases h
    obtain ⟨a, xs, rfl, hq, rp⟩ := Frz.sees f |>.lst
    refine .inl ⟨xs, hq, ?_⟩
    cases rp <;> rfl
  · cases h
theorem wu (hE : IE X fn e ce) (hev : ∀ ρ, zx fn ce ρ = (zf fn ce ρ).bind yc) (he : ∀ whole, isTrue e X.env whole = (do let v ← whole; standAt e.pos; holding [v] (truthy v)) := by intro _; rfl) : IT X fn e ce :=
  .mk <| (zcY hE.v he).imp fun σ H Q zz3 => by
    obtain ⟨W, ρ, k, hR, ht, q⟩ := zz3
    rw [hev, jo1] at ht
    obtain ⟨r, e1, e2⟩ := ht
    exact ⟨W, ρ, r, hR, e1, fun v H1 s1 f => ⟨k, ze0 f e2, q H1 s1⟩⟩
theorem ze1 (i : Nat) : ∀ ρ, zx fn (.var i) ρ = (zf fn (.var i) ρ).bind yc := fun ρ => id rfl
theorem jz (p : Prim) (cs : Es) : ∀ ρ, zx fn (.prim p cs) ρ = (zf fn (.prim p cs) ρ).bind yc := fun ρ => by rw [VG, xE, Option.bind_assoc]
theorem Ja (f : Nat) (cs : Es) : ∀ ρ, zx fn (.call f cs) ρ = (zf fn (.call f cs) ρ).bind yc := fun ρ => by rw [zev, qb, Option.bind_assoc]
end
end L2.LW
set_option maxHeartbeats 4000000
namespace L2.LW
open PySem PySem.Spec PyProof.Rows
noncomputable def Jb (K : PySem.W.Frag) (fn : Nat → List D → Option SV) (i : Nat) : Sp := fun vs H Q _ => ∃ W ds r, Wf W H ∧ Reps K W H ds vs ∧ fn i ds = some r ∧ ∀ v H', Same H H' → Res K W H H' r v → Q v H'
structure ARep (K : PySem.W.Frag) (W : Addr → Prop) (H : Hp) (io : List Nat) (ds : List D) (vs : List V) : Prop where
  len : ds.length = vs.length
  val : ∀ (k : Nat) (d : D), ds[k]? = some d → k ∉ io → ∃ v, vs[k]? = some v ∧ Rep K W H d v
  obj : ∀ (k : Nat) (d : D), ds[k]? = some d → k ∈ io → ∃ a o, vs[k]? = some (.ref a) ∧ W a ∧ H a = some o ∧ ORep K W H d o
  inj : ∀ (j k : Nat) (a : Addr), j ∈ io → k ∈ io → vs[j]? = some (.ref a) → vs[k]? = some (.ref a) → j = k
noncomputable def Jc (io : List Nat) (vs : List V) (a : Addr) : Prop := ∃ k ∈ io, vs[k]? = some (.ref a)
noncomputable def qz (K : PySem.W.Frag) (W : Addr → Prop) (H : Hp) (io : List Nat) (vs : List V) (outs : List D) : Prop :=
  Paired (fun k d => ∃ a o, vs[k]? = some (.ref a) ∧ H a = some o ∧ ORep K W H d o) io outs
noncomputable def xa (K : PySem.W.Frag) (fa : Nat → List D → Option Ans) (i : Nat) (io : List Nat) : Sp := fun vs H Q _ => ∃ W ds r outs, Wf W H ∧ ARep K W H io ds vs ∧ fa i ds = some (.ok r outs) ∧
  ∀ v H', (∀ a o, H a = some o → ¬ Jc io vs a → H' a = some o) → qz K W H' io vs outs → Res K W H H' r v → Q v H'
theorem Reps.get' {K : PySem.W.Frag} {W : Addr → Prop} {H : Hp} {ds : List D} {vs : List V} (r : Reps K W H ds vs) : ARep K W H [] ds vs :=
  ⟨r.length, fun k d h _ => r.get h, fun k d _ h => (by cases h), fun j k a h => (by cases h)⟩
theorem qA {fa : Nat → List D → Option Ans} {i : Nat} {ds : List D} {r : SV} (h : zA fa i ds = some r) : fa i ds = some (.ok r []) := by
  unfold zA at h
  split at h
  · rename_i r' e; cases h; exact e
  · cases h
theorem zV {Pg : Program} {w : World} {K : PySem.W.Frag} {mg : Str → Option Value} {base : Heap} {k : Nat} {f : Addr} {fd : FuncData} {ps : List Str} {fa : Nat → List D → Option Ans} {i : Nat} {io : List Nat}
    (F : FnOk Pg w K mg base yv k f fd ps (xa K fa i io)) (h : io = []) : FnOk Pg w K mg base yv k f fd ps (Jb K (zA fa) i) := by
  subst h
  exact F.imp fun vs H Q E ⟨W, ds, r, wf, rp, e, q⟩ => ⟨W, ds, r, [], wf, rp.get', qA e, fun v H' k _ res => q v H' (fun a o h => k a o h fun ⟨_, z, _⟩ => by cases z) res⟩
theorem Jd {K : PySem.W.Frag} {W : Addr → Prop} {H : Hp} : ∀ {rs : List SV} {vs : List V}, Paired (Frz K W H) rs vs → rs.any SV.lent = false → Reps K W H (rs.map zu) vs
  | _, _, .nil, _ => .nil
  | _, _, .cons h t, e => by
    simp only [List.any_cons, Bool.or_eq_false_iff] at e
    refine .cons ?_ (Jd t e.2)
    cases h with
    | val h => exact h
    | lis h e' r => exact r.rep h e'
    | see h e' r => simp [SV.lent] at e
theorem qB {K : PySem.W.Frag} {W : Addr → Prop} {H : Hp} : ∀ {rs : List SV} {vs : List V}, Paired (Frz K W H) rs vs → Reps K (fun _ => False) H (rs.map zu) vs
  | _, _, .nil => .nil
  | _, _, .cons h t => by
    refine .cons ?_ (qB t)
    cases h with
    | val h => exact h.less fun _ z => z.elim
    | lis h e' r => exact (r.less fun _ z => z.elim).rep (fun z => z) e'
    | see h e' r => exact (r.less fun _ z => z.elim).rep (fun z => z) e'
theorem Res.plain {K : PySem.W.Frag} {W W' : Addr → Prop} {H H' : Hp} {r : SV} {v : V} (h : Res K W' H H' r v) (wf : ∀ a, W' a → W a) (p : r.plain = true) : Res K W H H' r v := by
  cases h with
  | val h => exact .val (h.plain p)
  | new h e r => exact .new h e (r.plain p)
  | see h e r => exact .see (wf _ h) e (r.plain p)
section
variable {X : Cx} {fn : Nat → List D → Option SV} {fuel : Nat} {a b c e : Expr} {ca cb cc ce : E} {es : List Expr} {cs : Es} {pos p : Pos} {x : Str}
theorem zW {k : Nat} {f : Addr} {fd : FuncData} {ps : List Str} {i : Nat} (F : FnOk X.prog X.w X.K X.mg X.base yv k f fd ps (Jb X.K fn i)) (hr : Room k X.A) (hg : Gl X x) (hm : X.mg x = some (.ref f)) (hk : PySem.W.keepIn X.K (.ref f) = true)
    (hb : Binds X.K fd ps []) (ha : IA X fn (e :: es) cs) (hdb : (x == ("__debug__" : Str)) = false := by decide) (he : starEach (e :: es) X.env = (false, eval e X.env) :: starEach es X.env := by rfl)
    (hpl : (backTo pos (starEach es X.env)).any (·.1) = false := by rfl) : IE X fn (.Call (.Name x p) (e :: es) [] pos) (.call i cs) :=
  .mk <| (kj F hr hg hm hk hb .nil zdH ha.h hdb he hpl).imp fun σ H Q zz3 => by
    obtain ⟨W, ρ, r, hR, h, q⟩ := zz3
    simp only [qb, jo1, xO] at h
    obtain ⟨rs, e1, r', e2, e3⟩ := h
    split at e3
    · cases e3
    · rename_i hc
      cases e3
      refine ⟨W, ρ, rs, hR, e1, fun vs H1 s1 f => ?_⟩
      show Jb X.K fn i (vs ++ []) H1 Q E0
      rw [List.append_nil]
      cases hl : rs.any SV.lent with
      | false => exact ⟨W, _, r, hR.wf' s1, Jd f hl, e2, fun v H' s2 h => q v H' (s1.trans s2) (h.back s1)⟩
      | true =>
        have hp : r.plain = true := by
          cases hp : r.plain with
          | true => rfl
          | false => exact absurd (by rw [hl, hp]; rfl) hc
        exact ⟨fun _ => False, _, r, fun _ z => z.elim, qB f, e2, fun v H' s2 h => q v H' (s1.trans s2) ((h.plain (fun _ z => z.elim) hp).back s1)⟩
section
variable {K : PySem.W.Frag} {W : Addr → Prop} {ρ : LW.Env} {σ : St} {H H' : Hp} {i j : Nat} {d : D} {v : V}
theorem yD {α : Type} {l : List α} {i j : Nat} {x y : α} (h : (l.set i x)[j]? = some y) : (i = j ∧ y = x ∧ j < l.length) ∨ (i ≠ j ∧ l[j]? = some y) := by
  rw [List.getElem?_set] at h
  split at h
  · rename_i e
    subst e
    split at h
    · cases h; exact .inl ⟨rfl, rfl, by assumption⟩
    · cases h
  · exact .inr ⟨by assumption, h⟩
theorem vN {α : Type} {l : List α} {i : Nat} {x : α} (h : i < l.length) : (l.set i x)[i]? = some x := by simp [h]
theorem xc {α : Type} {l : List α} {i j : Nat} {x : α} (h : i ≠ j) : (l.set i x)[j]? = l[j]? := List.getElem?_set_ne h
theorem R.set_val (r : R K W ρ σ H) (h : Rep K W H d v) : R K W (ρ.set i (some (.val d))) (σ.set i (some v)) H := by
  refine ⟨fun j e hj => ?_, fun j e hj => ?_, fun j x e hj hc => ?_, fun j k x y e1 e2 a h1 h2 c1 c2 h3 h4 => ?_, r.wf, by simpa using r.len⟩
  · rcases yD hj with ⟨rfl, z, hl⟩ | ⟨n, z⟩
    · cases z
      exact ⟨v, vN (by rw [← r.len]; exact hl), h⟩
    · obtain ⟨u, h1, h2⟩ := r.val j e z
      exact ⟨u, by rw [xc n]; exact h1, h2⟩
  · rcases yD hj with ⟨rfl, z, hl⟩ | ⟨n, z⟩
    · cases z
    · exact r.nol j e z
  · rcases yD hj with ⟨rfl, z, hl⟩ | ⟨n, z⟩
    · cases z; cases hc
    · obtain ⟨a, o, h1, h2⟩ := r.own j x e z hc
      exact ⟨a, o, by rw [xc n]; exact h1, h2⟩
  · rcases yD h1 with ⟨rfl, z, hl⟩ | ⟨n, z⟩
    · cases z; cases c1
    · rcases yD h2 with ⟨rfl, z', hl⟩ | ⟨n', z'⟩
      · cases z'; cases c2
      · rw [xc n] at h3
        rw [xc n'] at h4
        exact r.inj j k x y e1 e2 a z z' c1 c2 h3 h4
theorem ze2 {a : Addr} (h : xu (ρ.set i (some (.val d))) (σ.set i (some v)) a) : xu ρ σ a := by
  obtain ⟨j, x, e, h1, hc, h2⟩ := h
  rcases yD h1 with ⟨rfl, z, hl⟩ | ⟨n, z⟩
  · cases z; cases hc
  · rw [xc n] at h2
    exact ⟨j, x, e, z, hc, h2⟩
theorem Xa {x : SV} (hx : ∀ d, x ≠ .io d) (hf : ¬ yY ρ i) (j : Nat) : (yY (ρ.set i (some x)) j ↔ yY ρ j) ∧ (yY ρ j → i ≠ j) := by
  refine ⟨⟨fun ⟨d, h⟩ => ?_, fun ⟨d, h⟩ => ?_⟩, fun h e => hf (by rw [e]; exact h)⟩
  · rcases yD h with ⟨rfl, z, hl⟩ | ⟨n, z⟩
    · cases z; exact absurd rfl (hx d)
    · exact ⟨d, z⟩
  · exact ⟨d, by rw [xc (fun e => hf (by rw [e]; exact ⟨d, h⟩))]; exact h⟩
theorem Xb (r : R K W ρ σ H) (s : Same H H') (h : Rep K W H' d v) (hf : ¬ yY ρ i) : SPost K W ρ σ H W (ρ.set i (some (.val d))) (σ.set i (some v)) H' :=
  ⟨(r.same s).set_val h, fun a o q _ => s a o q, fun a w => .inl w, fun a w n => ⟨w, fun z => n (ze2 z)⟩, fun j => ⟨(Xa (x := .val d) (fun _ z => (nomatch z)) hf j).1, fun z => xc ((Xa (x := .val d) (fun _ z => (nomatch z)) hf j).2 z)⟩⟩
theorem ze3 {a : Addr} (wf : Wf W H) (s : Same H H') {o : HO} (e : H' a = some o) : Wf (add W a) H' := fun b w => by
  rcases w with w | rfl
  · cases q : H b with
    | none => exact absurd q (wf b w)
    | some u => rw [s b u q]; exact fun z => nomatch z
  · rw [e]; exact fun z => nomatch z
theorem Xc {a : Addr} (s : Same H H') (h : H a = Option.none) : Ext W H (add W a) H' :=
  ⟨fun b o q _ => s b o q, fun b xs q => s b _ q, fun b o u q => s b _ q, fun b w => by
    rcases w with w | rfl
    · exact .inl w
    · exact .inr h⟩
theorem R.add {a : Addr} {o : HO} (r : R K W ρ σ H) (s : Same H H') (h : H a = Option.none) (e : H' a = some o) : R K (LW.add W a) ρ σ H' := by
  refine ⟨fun j d hj => ?_, r.nol, fun j x d hj hc => ?_, r.inj, ze3 r.wf s e, r.len⟩
  · obtain ⟨u, h1, h2⟩ := r.val j d hj
    exact ⟨u, h1, h2.ext (Xc s h)⟩
  · obtain ⟨b, o, h1, h2, h3, h4⟩ := r.own j x d hj hc
    exact ⟨b, o, h1, .inl h2, s _ _ h3, h4.ext (Xc s h)⟩
theorem R.noOwn {a : Addr} (r : R K W ρ σ H) (h : H a = Option.none) : ¬ xu ρ σ a := fun z => by
  obtain ⟨_, o, d, e, _⟩ := r.ownW z
  rw [h] at e; cases e
theorem ze4 {a : Addr} {o : HO} (r : R K W ρ σ H) (s : Same H H') (h : H a = Option.none) (e : H' a = some o) (rp : ORep K (LW.add W a) H' d o) (hf : ¬ yY ρ i) :
    SPost K W ρ σ H (LW.add W a) (ρ.set i (some (.obj true d))) (σ.set i (some (.ref a))) H' := by
  have ra := r.add s h e
  refine ⟨⟨fun j d hj => ?_, fun j d hj => ?_, fun j x es hj hc => ?_, fun j k x y e1 e2 b h1 h2 c1 c2 h3 h4 => ?_, ra.wf, by simpa using r.len⟩, fun b o q _ => s b o q, (Xc (W := W) s h).win, fun b w n => ⟨.inl w, fun z => ?_⟩,
    fun j => ⟨(Xa (x := .obj true d) (fun _ z => (nomatch z)) hf j).1, fun z => xc ((Xa (x := .obj true d) (fun _ z => (nomatch z)) hf j).2 z)⟩⟩
  · rcases yD hj with ⟨rfl, z, hl⟩ | ⟨n, z⟩
    · cases z
    · obtain ⟨u, h1, h2⟩ := ra.val j d z
      exact ⟨u, by rw [xc n]; exact h1, h2⟩
  · rcases yD hj with ⟨rfl, z, hl⟩ | ⟨n, z⟩
    · cases z
    · exact r.nol j d z
  · rcases yD hj with ⟨rfl, z, hl⟩ | ⟨n, z⟩
    · cases z; cases hc
      exact ⟨a, o, vN (by rw [← r.len]; exact hl), .inr rfl, e, rp⟩
    · obtain ⟨b, ys, h1, h2⟩ := ra.own j x es z hc
      exact ⟨b, ys, by rw [xc n]; exact h1, h2⟩
  · have other : ∀ {k : Nat} {x : SV} {e : D}, ρ[k]? = some (some x) → x.cell = some e → σ[k]? = some (some (.ref a)) → False := fun {k x e} q1 q3 q2 => r.noOwn h ⟨k, x, e, q1, q3, q2⟩
    rcases yD h1 with ⟨rfl, z, hl⟩ | ⟨n, z⟩
    · rcases yD h2 with ⟨rfl, _, _⟩ | ⟨n', z'⟩
      · rfl
      · rw [vN (by rw [← r.len]; exact hl)] at h3
        cases h3
        rw [xc n'] at h4
        exact (other z' c2 h4).elim
    · rcases yD h2 with ⟨rfl, z', hl⟩ | ⟨n', z'⟩
      · rw [vN (by rw [← r.len]; exact hl)] at h4
        cases h4
        rw [xc n] at h3
        exact (other z c1 h3).elim
      · rw [xc n] at h3
        rw [xc n'] at h4
        exact r.inj j k x y e1 e2 b z z' c1 c2 h3 h4
  · obtain ⟨j, x, es, h1, hc, h2⟩ := z
    rcases yD h1 with ⟨rfl, _, hl⟩ | ⟨n', z'⟩
    · rw [vN (by rw [← r.len]; exact hl)] at h2
      cases h2
      exact r.wf _ w h
    · rw [xc n'] at h2
      exact n ⟨j, x, es, z', hc, h2⟩
noncomputable def ze5 (W : Addr → Prop) (a : Addr) : Addr → Prop := fun b => W b ∧ b ≠ a
theorem ze6 (x : SV) (d : D) : (x.put d).cell = some d := by cases x <;> rfl
theorem ze7 (x : SV) (d d' : D) : x.put d ≠ .val d' := by cases x <;> exact fun z => nomatch z
theorem ze8 (x : SV) (d d' : D) : x.put d ≠ .obj false d' := by
  cases x <;> intro z <;> first | cases z | (simp [SV.put] at z)
theorem qC {x : SV} {d : D} : (∃ d', x.put d = .io d') ↔ ∃ d', x = .io d' := by
  cases x with
  | io y => exact ⟨fun _ => ⟨_, rfl⟩, fun _ => ⟨_, rfl⟩⟩
  | _ => exact ⟨fun ⟨_, z⟩ => (nomatch z), fun ⟨_, z⟩ => (nomatch z)⟩
theorem ze9 {a : Addr} {x : SV} {d0 d' : D} {o o' : HO} (r : R K W ρ σ H) (h : ρ[i]? = some (some x)) (hc : x.cell = some d0) (h' : σ[i]? = some (some (.ref a))) (s : Same H H') (e : H' a = some o) (hk : (∀ xs, o ≠ .tup xs) ∧ (∀ b u, o ≠ .frz b u))
    (rp : ORep K W H' d' o') : SPost K W ρ σ H W (ρ.set i (some (x.put d'))) σ (zJ H' a o') := by
  have r' := r.same s
  have hO : xu ρ σ a := ⟨i, x, d0, h, hc, h'⟩
  have hW : W a := (r.ownW hO).1
  have ext : Ext W H' W (zJ H' a o') := by
    refine ⟨fun b o q n => ?_, fun b ys q => ?_, fun b o u q => ?_, fun b w => .inl w⟩
    · rw [zL (fun z => n (by rw [z]; exact hW))]; exact q
    · rw [zL (fun z => by rw [z, e] at q; cases q; exact hk.1 _ rfl)]; exact q
    · rw [zL (fun z => by rw [z, e] at q; cases q; exact hk.2 _ _ rfl)]; exact q
  have old : ∀ {k : Nat} {y : SV} {es : D}, (ρ.set i (some (x.put d')))[k]? = some (some y) → y.cell = some es → ∃ y' es', ρ[k]? = some (some y') ∧ y'.cell = some es' := fun {k y es} q c => by
    rcases yD q with ⟨rfl, _, _⟩ | ⟨_, z⟩
    · exact ⟨_, _, h, hc⟩
    · exact ⟨_, _, z, c⟩
  refine ⟨⟨fun k d' hk => ?_, fun k d' hk => ?_, fun k y es hk hc' => ?_, fun k l x y e1 e2 b h1 h2 c1 c2 h3 h4 => ?_, fun b w => ?_, by simpa using r.len⟩, fun b o q n => ?_, fun b w => .inl w, fun b w n => ⟨w, fun z => ?_⟩, fun j => ⟨?_, fun _ => rfl⟩⟩
  · rcases yD hk with ⟨rfl, z, hl⟩ | ⟨n, z⟩
    · exact absurd (Option.some.inj z).symm (ze7 _ _ _)
    · obtain ⟨u, h1, h2⟩ := r'.val k d' z
      exact ⟨u, h1, h2.ext ext⟩
  · rcases yD hk with ⟨rfl, z, hl⟩ | ⟨n, z⟩
    · exact absurd (Option.some.inj z).symm (ze8 _ _ _)
    · exact r.nol k d' z
  · rcases yD hk with ⟨rfl, z, hl⟩ | ⟨n, z⟩
    · cases z
      rw [ze6] at hc'
      cases hc'
      exact ⟨a, _, h', hW, wm, rp.ext ext⟩
    · obtain ⟨b, ys, h1, h2, h3, h4⟩ := r'.own k y es z hc'
      refine ⟨b, ys, h1, h2, ?_, h4.ext ext⟩
      rw [zL (fun z' => by subst z'; exact n (r.inj i k x y d0 es b h z hc hc' h' h1))]
      exact h3
  · obtain ⟨_, _, z1, w1⟩ := old h1 c1
    obtain ⟨_, _, z2, w2⟩ := old h2 c2
    exact r.inj k l _ _ _ _ b z1 z2 w1 w2 h3 h4
  · by_cases z : b = a
    · subst z; rw [wm]; exact fun z => nomatch z
    · rw [zL z]; exact r'.wf b w
  · rw [zL (fun z => n (by rw [z]; exact hO))]
    exact s b o q
  · obtain ⟨k, y, es, h1, hc', h2⟩ := z
    obtain ⟨_, _, z, w⟩ := old h1 hc'
    exact n ⟨k, _, _, z, w, h2⟩
  · by_cases e : i = j
    · subst e
      have hl : i < ρ.length := by
        obtain ⟨z, _⟩ := List.getElem?_eq_some_iff.mp h; exact z
      constructor
      · rintro ⟨d', z⟩
        rw [vN hl] at z
        have z := Option.some.inj (Option.some.inj z)
        obtain ⟨d2, w⟩ := qC.mp ⟨d', z⟩
        exact ⟨d2, by rw [h, w]⟩
      · rintro ⟨d2, z⟩
        rw [h] at z
        obtain ⟨d3, w⟩ := qC (d := d').mpr ⟨d2, Option.some.inj (Option.some.inj z)⟩
        exact ⟨d3, by rw [vN hl, w]⟩
    · unfold yY; rw [xc e]
end
theorem Ret.back {K : PySem.W.Frag} {W W1 W2 : Addr → Prop} {ρ ρ1 : LW.Env} {σ σ1 : St} {H H1 H2 : Hp} {r : SV} {v : V} (p : SPost K W ρ σ H W1 ρ1 σ1 H1) (h : Ret K W1 ρ1 σ1 W2 H2 r v) : Ret K W ρ σ W2 H2 r v := by
  cases h with
  | val h => exact .val h
  | new h n n' e r => exact .new h (fun ⟨w, z⟩ => n (p.wout _ w z)) (fun ⟨i, z1, z2⟩ => n' ⟨i, (p.io i).1.mpr z1, by rw [(p.io i).2 z1]; exact z2⟩) e r
theorem FlOk.back {K : PySem.W.Frag} {W W1 W2 : Addr → Prop} {ρ ρ1 ρ2 : LW.Env} {σ σ1 σ2 : St} {H H1 H2 : Hp} {D : Ends} {fl : Fl} (p : SPost K W ρ σ H W1 ρ1 σ1 H1) (h : FlOk K W ρ σ W2 ρ2 σ2 H2 D fl) : FlOk K W1 ρ1 σ1 W2 ρ2 σ2 H2 D fl := by
  cases fl with
  | rt r => exact fun v q => h v (q.back p)
  | _ => exact h
structure IS (X : Cx) (ex : LW.Env → Option (Fl × LW.Env)) (st : Stmt) : Prop where
  h : PS X st (jt X.K ex)
structure ISs (X : Cx) (ex : LW.Env → Option (Fl × LW.Env)) (st : List Stmt) : Prop where
  h : PSs X st (jt X.K ex)
variable {fa : Nat → List D → Option Ans} {st : Stmt} {sts : List Stmt} {s : S} {ss s1 s2 : Ss}
theorem zw : ISs X (zv fa fuel .nil) [] := .mk <| Yk.imp fun D σ H zz3 => by
  obtain ⟨W, ρ, x, hR, hx, q⟩ := zz3
  simp only [zeF] at hx; cases hx; exact q W σ H (.same hR (.refl H))
theorem zk (h1 : IS X (zH fa fuel s) st) (h2 : ISs X (zv fa fuel ss) sts) : ISs X (zv fa fuel (.cons s ss)) (st :: sts) :=
  .mk <| (Ym h1.h h2.h).imp fun D σ H zz3 => by
    obtain ⟨W, ρ, x, hR, hx, q⟩ := zz3
    simp only [zeG, jo1] at hx
    obtain ⟨⟨fl, ρ1⟩, e1, e2⟩ := hx
    refine ⟨W, ρ, (fl, ρ1), hR, e1, fun W1 σ1 H1 p1 => ?_⟩
    cases fl with
    | nx => exact ⟨W1, ρ1, x, p1.r, e2, fun W2 σ2 H2 p2 => FlOk.back p1 (q W2 σ2 H2 (p1.trans p2 hR))⟩
    | br => cases e2; exact q W1 σ1 H1 p1
    | ct => cases e2; exact q W1 σ1 H1 p1
    | rt r => cases e2; exact q W1 σ1 H1 p1
theorem zfa (he : IE X (zA fa) e ce) (hs : swapsWith e Option.none pos.line X.env = pure false := by rfl) : IS X (zH fa fuel (.expr ce)) (.Expr e pos) :=
  .mk <| (Vk he.h hs).imp fun D σ H zz3 => by
    obtain ⟨W, ρ, x, hR, hx, q⟩ := zz3
    simp only [zew, jo2] at hx
    obtain ⟨r, e1, rfl⟩ := hx
    exact ⟨W, ρ, r, hR, e1, fun v H1 s1 _ => q W σ H1 (.same hR s1)⟩
theorem yf (i : Nat) {pos' : Pos} (hN : X.N.Nodup) (hi : X.N[i]? = some x) (hx : wn X.env.scope x) (he : IE X (zA fa) e ce) (hs : swapsWith e (some (.Name x pos')) pos.line X.env = pure false := by rfl)
    (hf : X.fn x = true ∨ X.env.scope.names.lookup x = some .local := by first | exact .inl rfl | exact .inr rfl | assumption) : IS X (zH fa fuel (.asg i ce)) (.Assign [.Name x pos'] e pos) :=
  .mk <| (zcp hN hi hx he.h hs hf).imp fun D σ H zz3 => by
    obtain ⟨W, ρ, y, hR, hy, q⟩ := zz3
    simp only [zex, jo1] at hy
    obtain ⟨r, e1, e2⟩ := hy
    split at e2
    · cases e2
    · rename_i hl
      cases e2
      simp only [Bool.not_eq_true, Bool.or_eq_false_iff, Bool.not_eq_false'] at hl
      refine ⟨W, ρ, r, hR, e1, fun v H1 s1 h => ?_⟩
      cases h with
      | val h => exact q W _ H1 (Xb hR s1 h (Zn hl.2))
      | new h e r => exact q _ _ H1 (ze4 hR s1 h e r (Zn hl.2))
      | see h e r => simp [SV.lent] at hl
theorem yg (he : IE X (zA fa) e ce) : IS X (zH fa fuel (.ret ce)) (.Return (some e) pos) :=
  .mk <| (Yn he.h).imp fun D σ H zz3 => by
    obtain ⟨W, ρ, y, hR, hy, q⟩ := zz3
    simp only [zeA, jo1] at hy
    obtain ⟨r, e1, e2⟩ := hy
    split at e2
    · cases e2
    · rename_i hl
      cases e2
      refine ⟨W, ρ, r, hR, e1, fun v H1 s1 h => ?_⟩
      cases h with
      | val h => exact q W σ H1 (.same hR s1) v (.val h)
      | new h e r =>
        refine q _ σ H1 ⟨hR.add s1 h e, fun b o q _ => s1 b o q, (Xc (W := W) s1 h).win, fun b w n => ⟨.inl w, n⟩, fun _ => ⟨.rfl, fun _ => rfl⟩⟩ _ (.new (.inr rfl) (fun z => hR.wf _ z.1 h) (fun ⟨i, ⟨d, z1⟩, z2⟩ => hR.noOwn h ⟨i, _, d, z1, rfl, z2⟩) e r)
      | see h e r => simp [SV.lent] at hl
theorem Je (i : Nat) (hN : X.N[i]? = some x) (hv : xX X.env.scope x) (hd : (x == ("__debug__" : Str)) = false := by decide) (hcd : (x == ("__classdict__" : Str)) = false := by decide) : IS X (zH fa fuel (.retV i)) (.Return (some (.Name x p)) pos) :=
  .mk <| (Yn (Yj hN hv hd hcd)).imp fun D σ H zz3 => by
    obtain ⟨W, ρ, y, hR, hy, q⟩ := zz3
    simp only [qe] at hy
    split at hy
    · rename_i d h
      cases hy
      obtain ⟨v, h1, h2⟩ := hR.val i d h
      exact ⟨v, h1, q W σ H (.same hR (.refl H)) v (.val h2)⟩
    · rename_i o ds h
      cases hy
      cases o with
      | false => exact absurd h (hR.nol i ds)
      | true =>
      obtain ⟨a, xs, h1, h2, h3, h4⟩ := hR.own i _ ds h rfl
      refine ⟨_, h1, q W σ H ?_ _ (.new h2 (fun z => z.2 ⟨i, _, ds, h, rfl, h1⟩) (fun zz0 => by
        obtain ⟨j, ⟨d', z1⟩, z2⟩ := zz0
        have := hR.inj i j _ _ ds d' a h z1 rfl rfl h1 z2
        subst this
        rw [h] at z1; cases z1) h3 h4)⟩
      have old : ∀ {k : Nat} {z : SV}, (ρ.set i Option.none)[k]? = some (some z) → ρ[k]? = some (some z) := fun {k z} q => by
        rcases yD q with ⟨_, w, _⟩ | ⟨_, w⟩
        · cases w
        · exact w
      exact ⟨⟨fun k d hk => hR.val k d (old hk), fun k d hk => hR.nol k d (old hk), fun k o es hk => hR.own k o es (old hk), fun k l x y e1 e2 b z1 z2 => hR.inj k l x y e1 e2 b (old z1) (old z2), hR.wf, by simpa using hR.len⟩, fun b o q _ => q, fun b w => .inl w, fun b w n => ⟨w, fun ⟨k, x, es, z1, c, z2⟩ => n ⟨k, x, es, old z1, c, z2⟩⟩,
        fun k => ⟨⟨fun ⟨d', z⟩ => ⟨d', old z⟩, fun ⟨d', z⟩ => ⟨d', by rw [xc (fun e => by subst e; rw [h] at z; cases z)]; exact z⟩⟩, fun _ => rfl⟩⟩
    · cases hy
theorem Jf : IS X (zH fa fuel .stop) st := .mk <| zcl.imp fun D σ H zz3 => by
  obtain ⟨W, ρ, y, hR, hy, q⟩ := zz3
  simp only [zeE] at hy; cases hy
theorem yJ (hc : IT X (zA fa) c cc) (h1 : ISs X (zv fa fuel s1) sts) (h2 : ISs X (zv fa fuel s2) sts') : IS X (zH fa fuel (.ifs cc s1 s2)) (.If c sts sts' pos) :=
  .mk <| (QR hc.h h1.h h2.h).imp fun D σ H zz3 => by
    obtain ⟨W, ρ, y, hR, hy, q⟩ := zz3
    simp only [zeB, jo1] at hy
    obtain ⟨k, e1, e2⟩ := hy
    refine ⟨W, ρ, k, hR, e1, fun H1 w1 => ?_⟩
    have p1 := SPost.same hR w1
    show if k = true then jt X.K (zv fa fuel s1) D σ H1 else jt X.K (zv fa fuel s2) D σ H1
    cases k with
    | true => rw [if_pos rfl] at e2 ⊢; exact ⟨W, ρ, y, p1.r, e2, fun W2 σ2 H2 p2 => FlOk.back p1 (q W2 σ2 H2 (p1.trans p2 hR))⟩
    | false => rw [if_neg Bool.false_ne_true] at e2 ⊢; exact ⟨W, ρ, y, p1.r, e2, fun W2 σ2 H2 p2 => FlOk.back p1 (q W2 σ2 H2 (p1.trans p2 hR))⟩
theorem qD (i : Nat) {apos cpos : Pos} (hN : X.N[i]? = some x) (hv : xX X.env.scope x) (he : IE X (zA fa) e ce) (hst : starEach [e] X.env = (false, eval e X.env) :: starEach [] X.env) (hd : (x == ("__debug__" : Str)) = false) (hcd : (x == ("__classdict__" : Str)) = false)
    (hs : swapsWith (.Call (.Attribute (.Name x p) "append" apos) [e] [] cpos) Option.none pos.line X.env = pure false := by rfl)
    (hbase : attributeBase (.Name x p) "append" X.env (eval (.Name x p) X.env) = eval (.Name x p) X.env := by rfl)
    (hline : (apos.endLine == cpos.line) = true := by rfl) :
    IS X (zH fa fuel (.app i ce)) (.Expr (.Call (.Attribute (.Name x p) "append" apos) [e] [] cpos) pos) :=
  .mk <| (Vk (Yw PySem.F.plainAttrs_list PySem.F.slot_list_append PySem.F.type_list_append kF (Yj hN hv hd hcd) (wB he.v vi hst) hbase (by rw [hst]; rfl) hline hst zo) hs).imp fun D σ H zz3 => by
    obtain ⟨W, ρ, y, hR, hy, q⟩ := zz3
    simp only [qd] at hy
    split at hy
    · rename_i x h
      split at hy
      · rename_i ds hc
        simp only [jo1] at hy
        obtain ⟨r, e1, d, e2, e3⟩ := hy
        split at e3
        · rename_i hl
          cases e3
          obtain ⟨a, o, h1, h2, h3, h4⟩ := hR.own i _ _ h hc
          cases h4 with
          | lst h4 =>
          rename_i xs
          refine ⟨_, h1, .inl ⟨rfl, xs, .of h3⟩, ?_⟩
          refine ⟨W, ρ, r, hR, e1, fun v H1 w1 f => ?_⟩
          refine ⟨a, xs, v, rfl, rfl, w1 _ _ h3, ?_, ?_⟩
          · rw [← h4.length, ← VL]; exact hl
          · exact q W σ _ (ze9 hR h hc h1 w1 (w1 _ _ h3) ⟨fun _ z => (nomatch z), fun _ _ z => (nomatch z)⟩ (.lst ((h4.ext (.same w1)).append (.cons (f.toD e2) .nil))))
        · cases e3
      · cases hy
    · cases hy
end
end L2.LW
set_option maxHeartbeats 4000000
namespace L2.LW
open PySem PySem.Spec PyProof.Rows
noncomputable def Yl (K : PySem.W.Frag) (J : It) (W : Addr → Prop) (H : Hp) (ds : List D) : Prop :=
  ∀ W' H', Ext W H W' H' → ∀ k : Nat, (k = ds.length → J.stop k H') ∧ ∀ d, ds[k]? = some d → J.go k H' ∧ ∀ x H'', J.yld k H' x H'' → H'' = H' ∧ Rep K W' H' d x
noncomputable def Ys (K : PySem.W.Frag) (J : It) (W : Addr → Prop) (H : Hp) (ds : List D) : Prop :=
  ∀ W' H', Same H H' → (∀ a, W' a → W a ∨ H a = Option.none) → ∀ k : Nat, (k = ds.length → J.stop k H') ∧ ∀ d, ds[k]? = some d → J.go k H' ∧ ∀ x H'', J.yld k H' x H'' → H'' = H' ∧ Rep K W' H' d x
theorem Ext.sameW {W W' : Addr → Prop} {H H' : Hp} (s : Same H H') (w : ∀ a, W' a → W a ∨ H a = Option.none) : Ext W H W' H' := ⟨fun a o h _ => s a o h, fun a xs h => s a _ h, fun a o u h => s a _ h, w⟩
section
variable {K : PySem.W.Frag} {W : Addr → Prop} {H : Hp} {a : Addr} {xs : List V} {ds : List D}
theorem Jg {H' : Hp} {W' : Addr → Prop} (hq : SqL K H' a xs) (rp : Reps K W' H' ds xs) (k : Nat) :
    (k = ds.length → (jS K a).stop k H') ∧ ∀ d, ds[k]? = some d → (jS K a).go k H' ∧ ∀ x H'', (jS K a).yld k H' x H'' → H'' = H' ∧ Rep K W' H' d x := by
  refine ⟨fun e => ⟨xs, hq, by rw [← rp.length, e]; exact Nat.le_refl _⟩, fun d e => ?_⟩
  obtain ⟨v, e1, e2⟩ := rp.get e
  refine ⟨⟨xs, v, hq, e1⟩, fun x H'' ⟨z, y⟩ => ⟨z, ?_⟩⟩
  have := y xs hq
  rw [e1] at this
  cases this
  exact e2
theorem qE {H' : Hp} {W' : Addr → Prop} (hq : SqT K H' a xs) (rp : Reps K W' H' ds xs) (k : Nat) :
    (k = ds.length → (jT K a).stop k H') ∧ ∀ d, ds[k]? = some d → (jT K a).go k H' ∧ ∀ x H'', (jT K a).yld k H' x H'' → H'' = H' ∧ Rep K W' H' d x := by
  refine ⟨fun e => ⟨xs, hq, by rw [← rp.length, e]; exact Nat.le_refl _⟩, fun d e => ?_⟩
  obtain ⟨v, e1, e2⟩ := rp.get e
  refine ⟨⟨xs, v, hq, e1⟩, fun x H'' ⟨z, y⟩ => ⟨z, ?_⟩⟩
  have := y xs hq
  rw [e1] at this
  cases this
  exact e2
theorem Xd {H' : Hp} {W' : Addr → Prop} {lo : Int} {n : Nat} (k : Nat) :
    (k = ((List.range n).map fun (k : Nat) => D.int (lo + (k : Int))).length → (vE lo n).stop k H') ∧
      ∀ d, ((List.range n).map fun (k : Nat) => D.int (lo + (k : Int)))[k]? = some d → (vE lo n).go k H' ∧ ∀ x H'', (vE lo n).yld k H' x H'' → H'' = H' ∧ Rep K W' H' d x := by
  refine ⟨fun e => ?_, fun d e => ?_⟩
  · rw [List.length_map, List.length_range] at e
    exact Nat.le_of_eq e.symm
  · rw [List.getElem?_map, jo2] at e
    obtain ⟨j, e1, rfl⟩ := e
    obtain ⟨h1, h2⟩ := List.getElem?_eq_some_iff.mp e1
    rw [List.length_range] at h1
    rw [List.getElem_range] at h2
    subst h2
    exact ⟨h1, fun x H'' ⟨z, y⟩ => ⟨z, by rw [y]; exact .int _⟩⟩
theorem zfb {W' : Addr → Prop} {H' : Hp} (h : (¬ W a ∧ Rd H a (.lst xs)) ∨ VH K a xs) (x : Ext W H W' H') : SqL K H' a xs := by
  rcases h with ⟨n, h | ⟨o, h⟩⟩ | h
  · exact .inl (.inl (x.keep _ _ h n))
  · exact .inl (.inr ⟨o, x.keep _ _ h n⟩)
  · exact .inr h
end
noncomputable def zfc (K : PySem.W.Frag) (tl : TE) : TI := fun σ H R => tl σ H fun x H1 => ∃ a, x = .ref a ∧ (((∃ xs, SqL K H1 a xs) ∧ R (jS K a) H1) ∨ ((∃ xs, SqT K H1 a xs) ∧ R (jT K a) H1))
section
variable {X : Cx} {tg l : Expr}
theorem zfd {tl : TE} (hl : PE X l tl) : PI X tg l (zfc X.K tl) := by
  intro pins s σ H R I h
  refine zq (hl pins s σ H _ I h) fun v s1 ⟨x, H1, I1, r1, q1⟩ => ?_
  obtain ⟨a, e, q⟩ := q1
  subst e
  cases r1
  rcases q with ⟨⟨xs, hq⟩, q⟩ | ⟨⟨xs, hq⟩, q⟩
  · obtain ⟨its, rv, p, hz⟩ := I1.list hq
    refine wpAny_pyIter_list p.isList ?_
    refine ⟨s1.heap.objs.size, [s1.heap.objs.size], _, _, H1, rfl, I1.kept (t' := s1.toks) fun b o e => Heap.get?_push_of_some _ e, zcq a _, ⟨_, Heap.get?_push_size _ rfl, rfl, rfl⟩, fun b hb => ?_, q⟩
    have e : b = s1.heap.objs.size := by simpa using hb
    subst e
    exact I1.fpOk (Nat.le_refl _) (I1.hok.fresh (Nat.le_refl _))
  · obtain ⟨its, rv, p, hz⟩ := I1.tuple hq
    refine wpAny_pyIter_tuple (show s1.heap.IsTuple a its.toArray from p) ?_
    refine ⟨s1.heap.objs.size, [s1.heap.objs.size], _, _, H1, rfl, I1.kept (t' := s1.toks) fun b o e => Heap.get?_push_of_some _ e, zcr a _, ⟨_, Heap.get?_push_size _ rfl, rfl, rfl⟩, fun b hb => ?_, q⟩
    have e : b = s1.heap.objs.size := by simpa using hb
    subst e
    exact I1.fpOk (Nat.le_refl _) (I1.hok.fresh (Nat.le_refl _))
end
noncomputable def tI (K : PySem.W.Frag) (fn : Nat → List D → Option SV) (rng : Bool) (src : Es) : TI := fun σ H R0 => ∃ W ρ rs ds, R K W ρ σ H ∧ zN fn src ρ = some rs ∧ zU rng rs = some ds ∧
  ∀ J H', Same H H' → Ys K J W H' ds → (rs.any SV.lent = false → Yl K J W H' ds) → R0 J H'
structure Src (X : Cx) (fn : Nat → List D → Option SV) (tg e : Expr) (rng : Bool) (src : Es) : Prop where
  h : PI X tg e (tI X.K fn rng src)
theorem _root_.L2.PI.imp {X : Cx} {tg l : Expr} {t t' : TI} (h : PI X tg l t) (i : ∀ σ H Q, t' σ H Q → t σ H Q) : PI X tg l t' := fun pins s σ H Q I q => h pins s σ H Q I (i σ H Q q)
section
variable {X : Cx} {fn : Nat → List D → Option SV} {fuel : Nat} {a b c e tg : Expr} {ca cb cc ce : E} {es : List Expr} {cs : Es} {pos p : Pos} {x : Str}
theorem Zv (he : IE X fn e ce) : Src X fn tg e false (.cons ce .nil) :=
  .mk <| (zfd he.v).imp fun σ H R0 zz3 => by
    obtain ⟨W, ρ, rs, ds, hR, h1, h2, q⟩ := zz3
    simp only [yW, yX, jo1, jo2] at h1
    obtain ⟨r, e1, rs', e3, rfl⟩ := h1
    cases e3
    simp only [zU] at h2
    refine ⟨W, ρ, r, hR, e1, fun v H1 s1 f => ?_⟩
    unfold vG at h2
    split at h2
    · rename_i l hd
      cases h2
      have hs := f.sees
      rw [hd] at hs
      obtain ⟨a, xs, rfl, hq, rp⟩ := hs.tupH
      refine ⟨a, rfl, .inr ⟨⟨xs, .of hq⟩, q _ H1 s1 (fun W' H' s w k => qE (.of (s _ _ hq)) (rp.ext (.sameW s w)) k) fun _ W' H' x k => qE (.of (x.tup _ _ hq)) (rp.ext x) k⟩⟩
    · rename_i l hd
      cases h2
      have hs := f.sees
      rw [hd] at hs
      obtain ⟨a, xs, rfl, hq, rp⟩ := hs.lst
      refine ⟨a, rfl, .inl ⟨⟨xs, hq⟩, q _ H1 s1 (fun W' H' s w k => Jg (s.seq hq) (rp.ext (.sameW s w)) k) fun hl W' H' x k => ?_⟩⟩
      have hl' : r.lent = false := by simpa using hl
      cases f with
      | val h =>
        change _ = D.lst _ at hd
        subst hd
        cases h with
        | lst h r' => exact Jg (zfb h x) (r'.ext x) k
      | lis h e r' =>
        change _ = D.lst _ at hd
        subst hd
        cases r' with
        | lst r' => exact Jg (.of (x.keep _ _ e h)) (r'.ext x) k
      | see h e r' => simp [SV.lent] at hl'
    · cases h2
theorem vq (hg : Gl X "range") (hm : X.mg "range" = Option.none) (ha : IA X fn [a] (.cons ca .nil)) (hs : starEach [a] X.env = (false, eval a X.env) :: starEach [] X.env) : Src X fn tg (.Call (.Name "range" p) [a] [] pos) true (.cons ca .nil) :=
  .mk <| (zcv hg hm ha.h hs).imp fun σ H R0 zz3 => by
    obtain ⟨W, ρ, rs, ds, hR, h1, h2, q⟩ := zz3
    refine ⟨W, ρ, rs, hR, h1, fun vs H1 s1 f => ?_⟩
    simp only [yW, yX, jo1, jo2] at h1
    obtain ⟨r, e1, rs', e3, rfl⟩ := h1
    cases e3
    obtain ⟨v, rfl, g⟩ : ∃ v, vs = [v] ∧ Frz X.K W H1 r v := by
      cases f with
      | cons f t => cases t; exact ⟨_, rfl, f⟩
    clear f
    cases g with
    | val g =>
      cases g with
      | int n =>
        simp only [zU] at h2
        split at h2
        · rename_i hn
          cases h2
          exact ⟨n, rfl, hn.1, hn.2, q _ H1 s1 (fun W' H' s w k => Xd k) fun _ W' H' x k => Xd k⟩
        · cases h2
      | _ => simp [zU] at h2
    | _ => simp [zU] at h2
theorem zfe (hg : Gl X "range") (hm : X.mg "range" = Option.none) (ha : IA X fn [a, b] (.cons ca (.cons cb .nil))) (hs : starEach [a, b] X.env = (false, eval a X.env) :: starEach [b] X.env) (hs2 : starEach [b] X.env = (false, eval b X.env) :: starEach [] X.env) :
    Src X fn tg (.Call (.Name "range" p) [a, b] [] pos) true (.cons ca (.cons cb .nil)) :=
  .mk <| (zcw hg hm ha.h (by rw [hs, hs2]; rfl) hs2).imp fun σ H R0 zz3 => by
    obtain ⟨W, ρ, rs, ds, hR, h1, h2, q⟩ := zz3
    refine ⟨W, ρ, rs, hR, h1, fun vs H1 s1 f => ?_⟩
    simp only [yW, yX, jo1, jo2] at h1
    obtain ⟨r, e1, rs', ⟨r2, e2, rs'', e3, rfl⟩, rfl⟩ := h1
    cases e3
    obtain ⟨v, v2, rfl, g, f2⟩ : ∃ v v2, vs = [v, v2] ∧ Frz X.K W H1 r v ∧ Frz X.K W H1 r2 v2 := by
      cases f with
      | cons f t => cases t with
        | cons f' t => cases t; exact ⟨_, _, rfl, f, f'⟩
    clear f
    cases g with
    | val g =>
      cases f2 with
      | val f2 =>
        cases g with
        | int n =>
          cases f2 with
          | int m =>
            simp only [zU] at h2
            split at h2
            · rename_i hn
              cases h2
              exact ⟨n, m, rfl, ⟨hn.1.1, hn.1.2, hn.2.1, hn.2.2⟩, q _ H1 s1 (fun W' H' s w k => Xd k) fun _ W' H' x k => Xd k⟩
            · cases h2
          | _ => simp [zU] at h2
        | _ => simp [zU] at h2
      | _ => simp [zU] at h2
    | _ => simp [zU] at h2
theorem Jh {α : Type} {l : List α} {k : Nat} {d : α} (h : l[k]? = some d) : l.drop k = d :: l.drop (k + 1) := by
  obtain ⟨h1, h2⟩ := List.getElem?_eq_some_iff.mp h
  rw [List.drop_eq_getElem_cons h1, h2]
theorem zff {K : PySem.W.Frag} {J : It} {ds : List D} {i : Nat} {ex : LW.Env → Option (Fl × LW.Env)} {W : Addr → Prop} {ρ : LW.Env} {σ : St} {H : Hp} {x : Fl × LW.Env} {D0 : Ends} (hR : R K W ρ σ H) (hfr : ¬ yY ρ i) (hy : Yl K J W H ds)
    (hx : yq i ex ds ρ = some x) (q : ∀ W' σ' H', SPost K W ρ σ H W' x.2 σ' H' → FlOk K W ρ σ W' x.2 σ' H' D0 x.1) :
    ∃ Wv : Nat → Nat → St → Hp → Prop, (∃ m, Wv 0 m σ H) ∧ ∀ k m σ' H', Wv k m σ' H' →
      (J.stop k H' ∧ D0.nx σ' H') ∨ (J.go k H' ∧ ∃ N : St → Hp → Prop, (∀ σ2 H2, N σ2 H2 → ∃ m', m' < m ∧ Wv (k + 1) m' σ2 H2) ∧ ∀ v H2, J.yld k H' v H2 → jR i v σ' H2 fun σ2 H2 => jt K ex { D0 with nx := N, ct := N, bk := D0.nx } σ2 H2) := by
  refine ⟨fun k m σ' H' => m = ds.length - k ∧ k ≤ ds.length ∧ ∃ W' ρ', SPost K W ρ σ H W' ρ' σ' H' ∧ yq i ex (ds.drop k) ρ' = some x, ⟨_, rfl, Nat.zero_le _, W, ρ, .same hR (.refl H), hx⟩, ?_⟩
  rintro k m σ' H' ⟨rfl, hk, W', ρ', p, hf⟩
  obtain ⟨hstop, hgo⟩ := hy W' H' (p.ext hR) k
  by_cases hlt : k < ds.length
  · have hd : ds[k]? = some ds[k] := by simp [hlt]
    obtain ⟨g1, g2⟩ := hgo _ hd
    rw [Jh hd, yq, jo1] at hf
    obtain ⟨⟨fl, ρ2⟩, e1, e2⟩ := hf
    refine .inr ⟨g1, fun σ2 H2 => (ds.length - (k + 1)) = ds.length - (k + 1) ∧ k + 1 ≤ ds.length ∧ ∃ W' ρ', SPost K W ρ σ H W' ρ' σ2 H2 ∧ yq i ex (ds.drop (k + 1)) ρ' = some x, fun σ2 H2 h => ⟨_, by omega, h⟩, fun v H2 y => ?_⟩
    obtain ⟨rfl, rv⟩ := g2 v H2 y
    have p1 := Xb (i := i) p.r (.refl H2) rv fun z => hfr ((p.io i).1.mp z)
    have p01 := p.trans p1 hR
    refine ⟨W', _, (fl, ρ2), p1.r, e1, fun W3 σ3 H3 p3 => ?_⟩
    have p03 := p01.trans p3 hR
    cases fl with
    | nx => exact ⟨rfl, hlt, W3, ρ2, p03, e2⟩
    | ct => exact ⟨rfl, hlt, W3, ρ2, p03, e2⟩
    | br => cases e2; exact q W3 σ3 H3 p03
    | rt r => cases e2; exact fun v hv => q W3 σ3 H3 p03 v (hv.back p01)
  · have e : k = ds.length := by omega
    rw [List.drop_of_length_le (by omega), yq] at hf
    cases hf
    exact .inl ⟨hstop e, q W' σ' H' p⟩
variable {fa : Nat → List D → Option Ans} {sts : List Stmt} {ss : Ss}
theorem Xe (i : Nat) {rng : Bool} {src : Es} {px : Pos} (hp : PassesOwn (model X.prog X.w) X.A X.env X.xe) (hc : X.calm = true) (hN : X.N.Nodup) (hi : X.N[i]? = some x) (hx : wn X.env.scope x) (hs : Src X (zA fa) (.Name x px) e rng src) (hb : ISs X (zv fa fuel ss) sts)
    (hf : X.fn x = true ∨ X.env.scope.names.lookup x = some .local := by first | exact .inl rfl | exact .inr rfl | assumption) (hfo : ∀ x, foldedSetIterable e X.env x = pure x := by intro _; rfl) : IS X (zH fa fuel (.for_ i rng src ss)) (.For (.Name x px) e sts [] pos) :=
  .mk <| (QX hp hc hs.h (Yp hN hi hx hf) hb.h hfo).imp fun D0 σ H zz3 => by
    obtain ⟨W, ρ, y, hR, hy, q⟩ := zz3
    simp only [zeC, jo1] at hy
    obtain ⟨rs, e1, e2⟩ := hy
    split at e2
    · cases e2
    · rename_i hl
      simp only [Bool.not_eq_true, Bool.or_eq_false_iff, Bool.not_eq_false'] at hl
      rw [jo1] at e2
      obtain ⟨ds, e3, e4⟩ := e2
      refine ⟨W, ρ, rs, ds, hR, e1, e3, fun J H1 s1 _ hyl => ?_⟩
      have p1 := SPost.same hR s1
      exact zff p1.r (Zn hl.2) (hyl hl.1) e4 fun W' σ' H' p => FlOk.back p1 (q W' σ' H' (p1.trans p hR))
end
theorem qF (io : List Nat) : ∀ (ds : List D) (k i : Nat), (xk io k ds)[i]? = (ds[i]?).map fun d => some (if io.contains (k + i) then SV.io d else .val d)
  | [], k, i => by simp [xk]
  | d :: r, k, 0 => by simp [xk]
  | d :: r, k, i + 1 => by
    rw [xk, List.getElem?_cons_succ, qF io r (k + 1) i, List.getElem?_cons_succ]
    have : k + 1 + i = k + (i + 1) := by omega
    rw [this]
theorem Zw (io : List Nat) : ∀ (ds : List D) (k : Nat), (xk io k ds).length = ds.length
  | [], k => rfl
  | d :: r, k => by simp [xk, Zw io r (k + 1)]
theorem qG {io : List Nat} {ds : List D} {n : Nat} {i : Nat} {x : SV} (h : (xk io 0 ds ++ List.replicate n Option.none)[i]? = some (some x)) :
    ∃ d, ds[i]? = some d ∧ x = if io.contains i then SV.io d else .val d := by
  by_cases hi : i < ds.length
  · rw [List.getElem?_append_left (by rw [Zw]; exact hi), qF, jo2] at h
    obtain ⟨d, e1, e2⟩ := h
    rw [Nat.zero_add] at e2
    exact ⟨d, e1, (Option.some.inj e2).symm⟩
  · rw [List.getElem?_append_right (by rw [Zw]; omega)] at h
    rw [List.getElem?_replicate] at h
    split at h <;> cases h
theorem vO {N : List Str} {vs : List V} {i : Nat} {v : V} (h : vs[i]? = some v) : (yV N vs)[i]? = some (some v) := by
  have hi : i < vs.length := (List.getElem?_eq_some_iff.mp h).1
  unfold yV
  rw [List.getElem?_append_left (by simpa using hi), List.getElem?_map, h]
  rfl
theorem Ji {K : PySem.W.Frag} {W W' : Addr → Prop} {H' : Hp} {ρ' : LW.Env} {σ' : St} {vs : List V} (hR : R K W' ρ' σ' H') (sub : ∀ b, W b → W' b) : ∀ {io : List Nat} {outs : List D}, xP ρ' io = some outs → (∀ k ∈ io, yY ρ' k → ∃ a, σ'[k]? = some (some (.ref a)) ∧ vs[k]? = some (.ref a)) → qz K W H' io vs outs
  | [], outs, e, _ => by simp only [xP] at e; cases e; exact .nil
  | k :: r, outs, e, hs => by
    simp only [xP] at e
    split at e
    · rename_i d h
      rw [jo2] at e
      obtain ⟨l, e1, rfl⟩ := e
      obtain ⟨a, h1, h2⟩ := hs k List.mem_cons_self ⟨d, h⟩
      obtain ⟨a', o, h3, _, h5, h6⟩ := hR.own k _ d h rfl
      rw [h1] at h3; cases h3
      exact .cons ⟨a, o, h2, h5, h6.less sub⟩ (Ji hR sub e1 fun j hj => hs j (List.mem_cons_of_mem _ hj))
    · cases e
theorem xl {Pg : Program} {w : World} {K : PySem.W.Frag} {mg : Str → Option Value} {base : Heap} {x qual : Str} {st : Stmt} {f : Addr} {fd : FuncData} {N ps : List Str} {k n i : Nat} {P : Nat → Option Fn} {fuel : Nat} {F0 : Fn} {io : List Nat}
    (F : Fun K x qual st f fd) (S : FnScope N ps (zy st)) (hP : P i = some F0) (hnp : F0.np = ps.length) (hnl : F0.nl = N.length) (hio : F0.io = io) (hiop : io.all (fun k => decide (k < F0.np)) = true) (hxb : F0.xb = Option.none)
    (hbody : ∀ (cdv : Value) (A : Around) (outer : List PySem.Env) (s : Shared) (H : Hp) (E : XK), Room k (A.deeper (envOfC qual (zy st) s.heap.objs.size f cdv)) →
      ISs (xg yv Pg w K mg base N qual (zy st) f cdv A outer s H E).nox (zv (zn P fuel n) fuel F0.body) (xK st)) :
    FnOk Pg w K mg base yv (k + 1) f fd ps (xa K (zn P fuel (n + 1)) i io) := by
  subst hio
  have dec : ∀ {ds : List D} {r : Ans}, zn P fuel (n + 1) i ds = some r → ds.length = F0.np ∧ vI F0.io (zv (zn P fuel n) fuel F0.body (xk F0.io 0 ds ++ List.replicate (F0.nl - F0.np) Option.none)) = some r := fun {ds r} h => by
    rw [zn, hP] at h
    simp only [Option.bind_some, hxb] at h
    split at h
    · exact ⟨by assumption, h⟩
    · cases h
  refine F.ok S (fun vs H Q E h => ?_) (fun cdv A outer s H vs Q E hr h => ⟨_, (hbody cdv A outer s H E hr).h, ?_⟩)
  · obtain ⟨W, ds, r, outs, wf, rp, e, _⟩ := h
    rw [← rp.len, (dec e).1, hnp]
  · obtain ⟨W, ds, r, outs, wf, rp, e, q⟩ := h
    obtain ⟨hl, he⟩ := dec e
    have hlv := rp.len
    have hplN : ps.length ≤ N.length := by have := congrArg List.length S.pre; rw [List.length_take] at this; omega
    generalize hρ : xk F0.io 0 ds ++ List.replicate (F0.nl - F0.np) Option.none = ρ at he
    have at_ : ∀ {j : Nat} {x : SV}, ρ[j]? = some (some x) → ∃ d, ds[j]? = some d ∧ x = if F0.io.contains j then SV.io d else .val d := fun {j x} h => by rw [← hρ] at h; exact qG h
    have own_io : ∀ a, xu ρ (yV N vs) a → Jc F0.io vs a := fun a zz1 => by
      obtain ⟨j, x, d, h1, hc, h2⟩ := zz1
      obtain ⟨d', e1, e2⟩ := at_ h1
      split at e2
      · rename_i hj
        have hj : j ∈ F0.io := by simpa using hj
        obtain ⟨b, o, h3, _⟩ := rp.obj j d' e1 hj
        rw [vO h3] at h2
        cases h2
        exact ⟨j, hj, h3⟩
      · subst e2; cases hc
    have hR : R K W ρ (yV N vs) H := by
      refine ⟨fun j d h => ?_, fun j d h => ?_, fun j x d h hc => ?_, fun j k x y d e a h1 h2 c1 c2 h3 h4 => ?_, wf, ?_⟩
      · obtain ⟨d', e1, e2⟩ := at_ h
        split at e2
        · cases e2
        · rename_i hj
          cases e2
          obtain ⟨v, h1, h2⟩ := rp.val j d e1 (by simpa using hj)
          exact ⟨v, vO h1, h2⟩
      · obtain ⟨d', e1, e2⟩ := at_ h
        split at e2 <;> cases e2
      · obtain ⟨d', e1, e2⟩ := at_ h
        split at e2
        · rename_i hj
          subst e2; cases hc
          obtain ⟨b, o, h3, h4, h5, h6⟩ := rp.obj j d e1 (by simpa using hj)
          exact ⟨b, o, vO h3, h4, h5, h6⟩
        · subst e2; cases hc
      · obtain ⟨d1, e1, e2⟩ := at_ h1
        obtain ⟨d2, e3, e4⟩ := at_ h2
        split at e2
        · rename_i hj
          split at e4
          · rename_i hk
            have hj : j ∈ F0.io := by simpa using hj
            have hk : k ∈ F0.io := by simpa using hk
            obtain ⟨b, o, z1, _⟩ := rp.obj j d1 e1 hj
            obtain ⟨b', o', z2, _⟩ := rp.obj k d2 e3 hk
            rw [vO z1] at h3; cases h3
            rw [vO z2] at h4; cases h4
            exact rp.inj j k _ hj hk z1 z2
          · subst e4; cases c2
        · subst e2; cases c1
      · rw [← hρ]
        unfold yV
        rw [List.length_append, List.length_append, Zw, List.length_map, List.length_replicate, List.length_replicate]
        omega
    cases hx : zv (zn P fuel n) fuel F0.body ρ with
    | none => rw [hx] at he; cases he
    | some y =>
      rw [hx] at he
      obtain ⟨fl, ρ'⟩ := y
      refine ⟨W, ρ, (fl, ρ'), hR, hx, fun W' σ' H' p => ?_⟩
      have kp : ∀ a o, H a = some o → ¬ Jc F0.io vs a → H' a = some o := fun b o h n => p.keep b o h fun z => n (own_io b z)
      have io_at : ∀ k ∈ F0.io, yY ρ' k → ∃ a, σ'[k]? = some (some (.ref a)) ∧ vs[k]? = some (.ref a) := fun j hj z => by
        have z0 := (p.io j).1.mp z
        obtain ⟨d0, z1⟩ := z0
        obtain ⟨d', e1, e2⟩ := at_ z1
        obtain ⟨b, o, h3, _⟩ := rp.obj j d' e1 hj
        exact ⟨b, by rw [(p.io j).2 ⟨d0, z1⟩, vO h3], h3⟩
      have sub : ∀ b, W b → W' b := fun b w => by
        by_cases hb : xu ρ (yV N vs) b
        · obtain ⟨j, x, d, h1, hc, h2⟩ := hb
          obtain ⟨d', e1, e2⟩ := at_ h1
          split at e2
          · subst e2
            obtain ⟨d2, z⟩ := (p.io j).1.mpr ⟨d', h1⟩
            obtain ⟨a', o, h3, h4, _⟩ := p.r.own j _ d2 z rfl
            rw [(p.io j).2 ⟨d', h1⟩, h2] at h3
            cases h3
            exact h4
          · subst e2; cases hc
        · exact (p.wout b w hb).1
      cases fl with
      | br => cases he
      | ct => cases he
      | nx =>
        simp only [vI, jo2] at he
        obtain ⟨l, e1, e2⟩ := he
        cases e2
        exact q _ H' kp (Ji p.r sub e1 io_at) (.val .non)
      | rt r' =>
        simp only [vI, jo2] at he
        obtain ⟨l, e1, e2⟩ := he
        cases e2
        intro v hv
        have ho := Ji p.r sub e1 io_at
        cases hv with
        | val h => exact q v H' kp ho (.val (h.less sub))
        | new h nn n' eL rr =>
          have ha := (p.win _ h).resolve_left fun w => nn ⟨w, fun zz0 => by
            obtain ⟨j, x, d, h1, hc, h2⟩ := zz0
            obtain ⟨d', e1, e2⟩ := at_ h1
            split at e2
            · subst e2; exact n' ⟨j, ⟨d', h1⟩, h2⟩
            · subst e2; cases hc⟩
          refine q _ H' kp ho (.new ha eL (rr.less fun b w => ?_))
          rcases w with w | rfl
          · exact sub b w
          · exact h
end L2.LW
set_option maxHeartbeats 4000000
namespace L2.LW
open PySem PySem.Spec PyProof.Rows
noncomputable def xm (env : PySem.Env) : List (Str × NameKind) → List (Str × Addr) → List (Str × Addr)
  | [], acc => acc
  | (n, k) :: r, acc => if k == .free then xm env r ((n, (env.cells.lookup n).getD 0) :: acc) else xm env r acc
theorem qH (env : PySem.Env) : ∀ (names : List (Str × NameKind)) (acc : List (Str × Addr)), (∀ y ∈ names, y.2 = .free → (env.cells.lookup y.1).isSome = true) →
    (forIn names acc fun (x : Str × NameKind) (cs : List (Str × Addr)) => (if (x.2 == NameKind.free) = true then (do let c ← cellOf env x.1; pure (ForInStep.yield ((x.1, c) :: cs)) : Sem (ForInStep (List (Str × Addr)))) else pure (ForInStep.yield cs))) = (pure (xm env names acc) : Sem (List (Str × Addr)))
  | [], acc, _ => rfl
  | (n, k) :: r, acc, h => by
    have ih := fun acc => qH env r acc fun y hy => h y (List.mem_cons_of_mem _ hy)
    rw [List.forIn_cons]
    by_cases hk : (k == NameKind.free) = true
    · have hs := h (n, k) List.mem_cons_self (by simpa using hk)
      obtain ⟨c, hc⟩ := Option.isSome_iff_exists.mp hs
      have hc : env.cells.lookup n = some c := hc
      simp only [hk, if_true, cellOf, hc, xm, Option.getD_some]
      show (forIn r ((n, c) :: acc) _ : Sem _) = _
      exact ih _
    · simp only [hk, if_false, xm]
      show (forIn r acc _ : Sem _) = _
      exact ih _
theorem zfg {scope : Scope} {env : PySem.Env} (h : ∀ y ∈ scope.names, y.2 = .free → (env.cells.lookup y.1).isSome = true) : closureFor scope env = pure (xm env scope.names []) := by
  have key : closureFor scope env = ((forIn scope.names ([] : List (Str × Addr)) fun (x : Str × NameKind) (cs : List (Str × Addr)) =>
    (if (x.2 == NameKind.free) = true then (do let c ← cellOf env x.1; pure (ForInStep.yield ((x.1, c) :: cs)) : Sem (ForInStep (List (Str × Addr)))) else pure (ForInStep.yield cs))) >>= fun cs => pure cs) := rfl
  rw [key, qH env scope.names [] h]
  rfl
theorem Xf {env : PySem.Env} {y : Str} {c : Addr} : ∀ {names : List (Str × NameKind)} {acc : List (Str × Addr)}, (∀ z ∈ names, z.2 = .free → (env.cells.lookup z.1).isSome = true) → (xm env names acc).lookup y = some c →
    acc.lookup y = some c ∨ env.cells.lookup y = some c
  | [], _, _, e => .inl e
  | (n, k) :: r, acc, h, e => by
    unfold xm at e
    split at e
    · rename_i hk
      rcases Xf (fun z hz => h z (List.mem_cons_of_mem _ hz)) e with q | q
      · rw [List.lookup_cons] at q
        split at q
        · rename_i hy
          have hy : y = n := by simpa using hy
          subst hy
          obtain ⟨c', hc⟩ := Option.isSome_iff_exists.mp (h (y, k) List.mem_cons_self (by simpa using hk))
          have hc : env.cells.lookup y = some c' := hc
          rw [hc] at q
          cases q
          exact .inr hc
        · exact .inl q
      · exact .inr q
    · exact Xf (fun z hz => h z (List.mem_cons_of_mem _ hz)) e
theorem Jj {env : PySem.Env} {y : Str} : ∀ {names : List (Str × NameKind)} {acc : List (Str × Addr)}, ((acc.lookup y).isSome = true ∨ (y, NameKind.free) ∈ names) → ((xm env names acc).lookup y).isSome = true
  | [], acc, h => by
    rcases h with h | h
    · exact h
    · cases h
  | (n, k) :: r, acc, h => by
    unfold xm
    split
    · rename_i hk
      refine Jj ?_
      by_cases e : y = n
      · subst e; exact .inl (by simp)
      · have hb : (y == n) = false := by simpa using e
        rcases h with h | h
        · exact .inl (by rw [List.lookup_cons, hb]; exact h)
        · rcases List.mem_cons.mp h with z | z
          · cases z; exact absurd rfl e
          · exact .inr z
    · rename_i hk
      refine Jj ?_
      rcases h with h | h
      · exact .inl h
      · rcases List.mem_cons.mp h with z | z
        · cases z; exact absurd rfl hk
        · exact .inr z
noncomputable def wW (x : Str) (N : List Str) : List Str := N.map fun y => if y = x then ("" : Str) else y
noncomputable def wE (scope : Scope) (x : Str) (c : Addr) (cl : List (Str × Addr)) : List (Str × Addr) := if scope.names.lookup x = some .cell then (x, c) :: cl else cl
noncomputable def yh (X : Cx) (scope : Scope) (x : Str) (s₃ : Shared) (H₃ : Hp) (fp : List Addr) (pins : List (Addr × Obj)) : Cx :=
  { X with N := x :: wW x X.N, s₀ := s₃, H₀ := H₃, env := compEnvC scope (wE scope x (s₃.heap.objs.size + 1) (xm X.env scope.names [])) s₃.heap.objs.size X.env, outer := X.stack, stack := X.stack, ex := fp, fn := fun y => decide (y = x) && decide (scope.names.lookup x = some .cell), pn := X.pn ++ pins, xe := fun _ _ => False }
structure CompSc (X : Cx) (scope : Scope) (x : Str) : Prop where
  kind : scope.kind = .function
  loc : scope.names.lookup x = some .local ∨ scope.names.lookup x = some .cell
  names : ∀ y ∈ scope.names, y.2 = .local → scope.names.lookup y.1 = some .local
  cell1 : scope.names.filter (fun y => y.2 == .cell) = if scope.names.lookup x = some .cell then [(x, .cell)] else []
  free : ∀ y ∈ scope.names, y.2 = .free → X.env.scope.names.lookup y.1 = some .cell ∨ X.env.scope.names.lookup y.1 = some .free
  own : ∀ y ∈ X.N, scope.names.lookup y = some .local → y = x
  none : scope.names.lookup ("" : Str) = Option.none
  nd : (x :: wW x X.N).Nodup
theorem Xg {y : Str} {k : NameKind} : ∀ {l : List (Str × NameKind)}, l.lookup y = some k → (y, k) ∈ l
  | [], h => by cases h
  | (n, j) :: r, h => by
    rw [List.lookup_cons] at h
    split at h
    · rename_i e
      have e : y = n := by simpa using e
      cases h; subst e
      exact List.mem_cons_self
    · exact List.mem_cons_of_mem _ (Xg h)
theorem jA {env : PySem.Env} {y : Str} {k : NameKind} : ∀ {names : List (Str × NameKind)},
    (names.map fun (z : Str × NameKind) => match z with | (n, k) => if (k == NameKind.free && env.scope.kind == .function && env.kindOf n == some .cell) = true then (n, NameKind.cell) else (n, k)).lookup y = some k →
    names.lookup y = some k ∨ (k = .cell ∧ names.lookup y = some .free)
  | [], h => by cases h
  | (n, j) :: r, h => by
    rw [List.map_cons, List.lookup_cons] at h
    rw [List.lookup_cons]
    by_cases hc : (j == NameKind.free && env.scope.kind == .function && env.kindOf n == some .cell) = true
    · simp only [hc, if_true] at h
      cases e : y == n with
      | true =>
        rw [e] at h
        cases h
        have hj : j = .free := by
          simp only [Bool.and_eq_true] at hc
          simpa using hc.1.1
        exact .inr ⟨rfl, by rw [hj]⟩
      | false => rw [e] at h; exact jA h
    · simp only [hc, Bool.false_eq_true, if_false] at h
      cases e : y == n with
      | true => rw [e] at h; exact .inl h
      | false => rw [e] at h; exact jA h
section
variable {X : Cx} {scope : Scope} {x : Str} {s₃ : Shared} {H₃ : Hp} {fp : List Addr} {pins : List (Addr × Obj)} {σ : St}
theorem CompSc.onlyC (S : CompSc X scope x) {y : Str} (h : scope.names.lookup y = some .cell) : y = x ∧ scope.names.lookup x = some .cell := by
  have hm : (y, NameKind.cell) ∈ scope.names.filter (fun y => y.2 == .cell) := List.mem_filter.mpr ⟨Xg h, rfl⟩
  rw [S.cell1] at hm
  split at hm
  · simp at hm; subst hm; exact ⟨rfl, h⟩
  · cases hm
theorem qI {x : Str} : ∀ (names : List (Str × NameKind)) (a : Nat) (acc : List (Str × Addr)) (h : Heap), names.filter (fun y => y.2 == .cell) = [(x, .cell)] → cellsFrom a names acc = (x, a) :: acc ∧ pushCells h names = h.push { cls := .type "cell", data := .cell Option.none }
  | [], _, _, _, e => by cases e
  | (n, k) :: r, a, acc, h, e => by
    have none_ : ∀ (names : List (Str × NameKind)) (a : Nat) (acc : List (Str × Addr)) (h : Heap), names.filter (fun y => y.2 == .cell) = [] → cellsFrom a names acc = acc ∧ pushCells h names = h := by
      intro names
      induction names with
      | nil => intro a acc h _; exact ⟨rfl, rfl⟩
      | cons y r ih =>
        intro a acc h e
        obtain ⟨n, k⟩ := y
        rw [List.filter_cons] at e
        split at e
        · cases e
        · rename_i hk
          have hk : (k == NameKind.cell) = false := by simpa using hk
          unfold cellsFrom pushCells
          rw [hk]
          exact ih a acc h e
    rw [List.filter_cons] at e
    split at e
    · rename_i hk
      injection e with e1 e2
      cases e1
      unfold cellsFrom pushCells
      simp only [beq_self_eq_true, if_true]
      exact none_ r _ _ _ e2
    · rename_i hk
      have hk : (k == NameKind.cell) = false := by simpa using hk
      unfold cellsFrom pushCells
      rw [hk]
      exact qI r a acc h e
theorem qJ : ∀ (names : List (Str × NameKind)) (a : Nat) (acc : List (Str × Addr)) (h : Heap), names.filter (fun y => y.2 == .cell) = [] → cellsFrom a names acc = acc ∧ pushCells h names = h
  | [], _, _, _, _ => ⟨rfl, rfl⟩
  | (n, k) :: r, a, acc, h, e => by
    rw [List.filter_cons] at e
    split at e
    · cases e
    · rename_i hk
      have hk : (k == NameKind.cell) = false := by simpa using hk
      unfold cellsFrom pushCells
      rw [hk]
      exact qJ r a acc h e
theorem zfh {M : Model} {A : Around} {E : Value → Shared → Prop} {s : Shared} {globals : Addr} {cl : List (Str × Addr)} {qual : Str} {env : PySem.Env} {Q : PySem.Env → Shared → Prop} (S : CompSc X scope x)
    (h : ∀ h₁, h₁.Ns s.heap.objs.size (fun _ => Option.none) → (∀ b o, s.heap.get? b = some o → h₁.get? b = some o) → (scope.names.lookup x = some .cell → h₁.IsCell (s.heap.objs.size + 1) Option.none) →
      Q (newEnv scope s.heap.objs.size globals (wE scope x (s.heap.objs.size + 1) cl) qual Option.none .none (some env) builtinsNs) { s with heap := h₁ }) :
    wpAny M A (newFunctionEnv scope globals cl [] qual Option.none .none (some env)) Q E s := by
  simp only [newFunctionEnv, Option.isSome_some, if_true]
  refine wpAny_bind (wpAny_alloc ?_)
  refine wpAny_bind (wpAny_layCells _ (fun name kind cells => by cases hkc : kind == NameKind.cell <;> simp [hkc]) _ _ _ _ ?_)
  rw [List.forIn_nil]
  refine wpAny_bind (wpAny_pure (wpAny_pure ?_))
  rw [show ({ s with heap := s.heap.push { cls := .type "dict", data := .dict #[] } } : Shared).heap.objs.size = s.heap.objs.size + 1 from Heap.size_push ..]
  have hc := S.cell1
  by_cases hx : scope.names.lookup x = some .cell
  · rw [if_pos hx] at hc
    obtain ⟨e1, e2⟩ := qI (x := x) scope.names (s.heap.objs.size + 1) cl (s.heap.push { cls := .type "dict", data := .dict #[] }) hc
    have h' := h (pushCells (s.heap.push { cls := .type "dict", data := .dict #[] }) scope.names) ((Heap.Ns.new s.heap (.type "dict")).keeps (pushCells_keeps _ _)) (fun b o e => pushCells_keeps _ _ b o (Heap.get?_push_of_some _ e)) (fun _ => by
      rw [e2]
      have : (s.heap.push { cls := .type "dict", data := .dict #[] }).objs.size = s.heap.objs.size + 1 := Heap.size_push ..
      rw [← this]
      exact ⟨_, Heap.get?_push_size _ rfl, rfl⟩)
    rw [e1]
    unfold wE at h'
    rw [if_pos hx] at h'
    exact h'
  · rw [if_neg hx] at hc
    obtain ⟨e1, e2⟩ := qJ scope.names (s.heap.objs.size + 1) cl (s.heap.push { cls := .type "dict", data := .dict #[] }) hc
    have h' := h (pushCells (s.heap.push { cls := .type "dict", data := .dict #[] }) scope.names) ((Heap.Ns.new s.heap (.type "dict")).keeps (pushCells_keeps _ _)) (fun b o e => pushCells_keeps _ _ b o (Heap.get?_push_of_some _ e)) (fun z => absurd z hx)
    rw [e1]
    unfold wE at h'
    rw [if_neg hx] at h'
    exact h'
theorem CompSc.cells (S : CompSc X scope x) (ok : X.Ok) : ∀ y ∈ scope.names, y.2 = .free → (X.env.cells.lookup y.1).isSome = true := fun y hy hk => by
  obtain ⟨c, hc⟩ := ok.has y.1 (S.free y hy hk)
  rw [hc]; rfl
theorem CompSc.look (S : CompSc X scope x) (ok : X.Ok) {y : Str} {c : Addr} (h : (yh X scope x s₃ H₃ fp pins).env.cells.lookup y = some c) :
    (y = x ∧ scope.names.lookup x = some .cell ∧ c = s₃.heap.objs.size + 1) ∨ ((y ≠ x ∨ scope.names.lookup x ≠ some .cell) ∧ X.env.cells.lookup y = some c) := by
  have h : (wE scope x (s₃.heap.objs.size + 1) (xm X.env scope.names [])).lookup y = some c := h
  have old : (xm X.env scope.names []).lookup y = some c → X.env.cells.lookup y = some c := fun h => by
    rcases Xf (S.cells ok) h with q | q
    · cases q
    · exact q
  unfold wE at h
  split at h
  · rename_i hc
    rw [List.lookup_cons] at h
    split at h
    · rename_i e
      cases h
      exact .inl ⟨by simpa using e, hc, rfl⟩
    · rename_i e
      exact .inr ⟨.inl (by simpa using e), old h⟩
  · rename_i hc
    exact .inr ⟨.inr hc, old h⟩
theorem CompSc.kindOf (S : CompSc X scope x) {y : Str} (h : (yh X scope x s₃ H₃ fp pins).env.kindOf y = some .cell ∨ (yh X scope x s₃ H₃ fp pins).env.kindOf y = some .free) : scope.names.lookup y = some .free ∨ (y = x ∧ scope.names.lookup x = some .cell) := by
  rcases h with h | h
  · rcases jA (show _ = _ from h) with q | ⟨_, q⟩
    · exact .inr (S.onlyC q)
    · exact .inl q
  · rcases jA (show _ = _ from h) with q | ⟨z, q⟩
    · exact .inl q
    · cases z
theorem CompSc.has (S : CompSc X scope x) {y : Str} (h : scope.names.lookup y = some .free) : ∃ c, (yh X scope x s₃ H₃ fp pins).env.cells.lookup y = some c ∧ (xm X.env scope.names []).lookup y = some c := by
  obtain ⟨c, hc⟩ := Option.isSome_iff_exists.mp (Jj (env := X.env) (names := scope.names) (acc := []) (y := y) (.inr (Xg h)))
  refine ⟨c, ?_, hc⟩
  show (wE scope x (s₃.heap.objs.size + 1) (xm X.env scope.names [])).lookup y = some c
  unfold wE
  split
  · rename_i hx
    have : (y == x) = false := by
      cases e : y == x with
      | false => rfl
      | true =>
        have e : y = x := by simpa using e
        subst e; rw [h] at hx; cases hx
    rw [List.lookup_cons, this]
    exact hc
  · exact hc
theorem Jk {env : PySem.Env} {y : Str} : ∀ {names : List (Str × NameKind)}, names.lookup y = some .cell →
    (names.map fun (z : Str × NameKind) => match z with | (n, k) => if (k == NameKind.free && env.scope.kind == .function && env.kindOf n == some .cell) = true then (n, NameKind.cell) else (n, k)).lookup y = some .cell
  | [], h => by cases h
  | (n, j) :: r, h => by
    rw [List.lookup_cons] at h
    rw [List.map_cons, List.lookup_cons]
    by_cases hc : (j == NameKind.free && env.scope.kind == .function && env.kindOf n == some .cell) = true
    · simp only [hc, if_true]
      cases e : y == n with
      | true => rfl
      | false => rw [e] at h; exact Jk h
    · simp only [hc, Bool.false_eq_true, if_false]
      cases e : y == n with
      | true => rw [e] at h; exact h
      | false => rw [e] at h; exact Jk h
theorem CompSc.locX (S : CompSc X scope x) : wn (yh X scope x s₃ H₃ fp pins).env.scope x := by
  rcases S.loc with h | h
  · exact .inl (lookup_relabel_local h)
  · exact .inr (Jk h)
theorem CompSc.fnX (S : CompSc X scope x) : (yh X scope x s₃ H₃ fp pins).fn x = true ∨ (yh X scope x s₃ H₃ fp pins).env.scope.names.lookup x = some .local := by
  rcases S.loc with h | h
  · exact .inr (lookup_relabel_local h)
  · left
    show (decide (x = x) && decide (scope.names.lookup x = some .cell)) = true
    simp [h]
theorem qK (S : CompSc X scope x) (I : Inv X pins σ H₃ s₃) (hf : ∀ b ∈ fp, xr X pins H₃ b) (hlt : ∀ b ∈ fp, b < s₃.heap.objs.size) : (yh X scope x s₃ H₃ fp pins).Ok where
  mod := I.ok.mod
  kind := S.kind
  glob := I.ok.glob
  blt := I.ok.blt
  above := Nat.le_refl _
  inj := fun y z c h1 h2 => by
    have old : ∀ {y : Str} {c : Addr}, X.env.cells.lookup y = some c → c < s₃.heap.objs.size := fun {y c} h => by
      obtain ⟨v, o, ho, _⟩ := I.cell y c h
      exact Heap.lt_size ho
    rcases S.look I.ok h1 with ⟨e1, _, e2⟩ | ⟨_, q1⟩
    · rcases S.look I.ok h2 with ⟨e3, _, e4⟩ | ⟨_, q2⟩
      · rw [e1, e3]
      · have := old q2; rw [e2] at this; exact absurd this (Nat.not_lt.mpr (Nat.le_succ _))
    · rcases S.look I.ok h2 with ⟨e3, _, e4⟩ | ⟨_, q2⟩
      · have := old q1; rw [e4] at this; exact absurd this (Nat.not_lt.mpr (Nat.le_succ _))
      · exact I.ok.inj y z c q1 q2
  has := fun y h => by
    rcases S.kindOf h with q | ⟨q1, q2⟩
    · obtain ⟨c, hc, _⟩ := S.has (s₃ := s₃) (H₃ := H₃) (fp := fp) (pins := pins) q
      exact ⟨c, hc⟩
    · refine ⟨s₃.heap.objs.size + 1, ?_⟩
      show (wE scope x (s₃.heap.objs.size + 1) (xm X.env scope.names [])).lookup y = _
      unfold wE
      rw [if_pos q2, q1, List.lookup_cons, beq_self_eq_true]
  cab := fun y c h hc => by
    have h : (decide (y = x) && decide (scope.names.lookup x = some .cell)) = true := h
    rw [Bool.and_eq_true, decide_eq_true_iff, decide_eq_true_iff] at h
    rcases S.look I.ok hc with ⟨_, _, e⟩ | ⟨q, _⟩
    · rw [e]; exact Nat.le_succ _
    · exact absurd h (fun z => q.elim (fun w => w z.1) fun w => w z.2)
  hd := I.ok.hd
  frames := I.ok.frames
  stk := .inl rfl
  exf := fun b hb => ⟨Nat.ne_of_lt (hlt b hb), fun y c h => by
    rcases S.look I.ok h with ⟨_, _, e⟩ | ⟨_, q⟩
    · rw [e]; exact fun z => absurd (z ▸ hlt b hb) (Nat.not_lt.mpr (Nat.le_succ _))
    · exact (hf b hb).2.2.2.2.1 y c q⟩
  bs := I.bs
  bsz := Nat.le_trans I.ok.bsz I.sz
  noex := fun b o e hb => by
    obtain ⟨_, _, _, h, _⟩ := hf b hb
    rcases h with h | h
    · exact I.ok.noex b o e h
    · exact absurd (Nat.lt_of_lt_of_le (Heap.lt_size e) (Nat.le_trans I.ok.bsz h)) (Nat.lt_irrefl _)
  exfs := fun b hb hz => by
    obtain ⟨_, h1, h2, _⟩ := hf b hb
    rcases List.mem_cons.mp (I.stkSub b hz) with e | e
    · exact h1 e
    · exact h2 e
  funs := I.stack
  frf := I.stkFree
theorem zfi {N : List Str} {i : Nat} {y : Str} (h : (wW x N)[i]? = some y) : ∃ z, N[i]? = some z ∧ ((z = x ∧ y = "") ∨ (z ≠ x ∧ y = z)) := by
  unfold wW at h
  rw [List.getElem?_map, jo2] at h
  obtain ⟨z, e1, e2⟩ := h
  refine ⟨z, e1, ?_⟩
  split at e2
  · exact .inl ⟨by assumption, e2.symm⟩
  · exact .inr ⟨by assumption, e2.symm⟩
theorem zfj {h₁ : Heap} {tk : Nat} (S : CompSc X scope x) (I : Inv X pins σ H₃ s₃) (hf : ∀ b ∈ fp, xr X pins H₃ b) (hlt : ∀ b ∈ fp, b < s₃.heap.objs.size) (hns : h₁.Ns s₃.heap.objs.size fun _ => Option.none)
    (hk : ∀ b o, s₃.heap.get? b = some o → h₁.get? b = some o) (jP : scope.names.lookup x = some .cell → h₁.IsCell (s₃.heap.objs.size + 1) Option.none) : Inv (yh X scope x s₃ H₃ fp pins) [] (Option.none :: σ) H₃ { s₃ with heap := h₁, toks := tk } := by
  refine ⟨qK S I hf hlt, rfl, I.bare, Un.kept hk, ⟨_, hns, fun i y v h1 h2 h3 => ?_⟩, fun y c h => ?_, I.hok.fresh (Nat.le_refl _), fun y c h => ?_, fun p hp => ?_, I.hok.kept hk, ?_⟩
  · cases i with
    | zero => cases h2
    | succ i =>
      have h1 : (wW x X.N)[i]? = some y := h1
      have h2 : σ[i]? = some (some v) := h2
      obtain ⟨z, e1, e2⟩ := zfi h1
      have vis : scope.names.lookup y = some .local ∨ scope.names.lookup y = some .free := by
        rcases h3 with q | q
        · rcases jA (show _ = _ from q) with q | ⟨z, q⟩
          · exact .inl q
          · cases z
        · rcases S.kindOf q with q | ⟨q, _⟩
          · exact .inr q
          · exfalso
            rcases e2 with ⟨_, z⟩ | ⟨ne, z⟩
            · have hx : x = "" := q.symm.trans z
              have hn := S.none
              rw [← hx] at hn
              rcases S.loc with w | w <;> rw [hn] at w <;> cases w
            · exact ne (z.symm.trans q)
      rcases e2 with ⟨rfl, rfl⟩ | ⟨ne, rfl⟩
      · rw [S.none] at vis
        rcases vis with q | q <;> cases q
      · rcases vis with q | q
        · exact absurd (S.own y (List.mem_of_getElem? e1) q) ne
        · have kx := S.free _ (Xg q) rfl
          obtain ⟨m, _, hl⟩ := I.loc
          obtain ⟨u, ru, l⟩ := hl i y v e1 h2 (.inr kx)
          refine ⟨u, ru, .inr ⟨?_, ?_⟩⟩
          · rcases h3 with q' | q'
            · rcases jA (show _ = _ from q') with q' | ⟨z, _⟩
              · rw [q] at q'; cases q'
              · cases z
            · exact q'
          · rcases l with ⟨k, _⟩ | ⟨_, c, hc, hcell'⟩
            · have k : X.env.scope.names.lookup y = some .local := k
              rcases kx with z | z
              · have z : X.env.scope.names.lookup y = some .cell := z
                rw [z] at k; cases k
              · have z : X.env.scope.names.lookup y = some .free := z
                rw [z] at k; cases k
            · obtain ⟨c', hc', hc2⟩ := S.has (s₃ := s₃) (H₃ := H₃) (fp := fp) (pins := pins) q
              have e : X.env.cells.lookup y = some c' := by
                rcases Xf (S.cells I.ok) hc2 with q | q
                · cases q
                · exact q
              rw [hc] at e
              cases e
              obtain ⟨o, ho, hd⟩ := hcell'
              exact ⟨c, hc', o, hk _ _ ho, hd⟩
  · rcases S.look I.ok h with ⟨_, q, e⟩ | ⟨_, q⟩
    · rw [e]; exact ⟨Option.none, jP q⟩
    · obtain ⟨v, o, ho, hd⟩ := I.cell y c q
      exact ⟨v, o, hk _ _ ho, hd⟩
  · rcases S.look I.ok h with ⟨_, q, e⟩ | ⟨_, q⟩
    · rw [e]; exact I.hok.fresh (Nat.le_succ _)
    · exact I.freeC y c q
  · have hp : p ∈ X.pn ++ pins := by simpa [yh] using hp
    obtain ⟨e, n, ne, nf, d⟩ := I.pin p hp
    refine ⟨hk _ _ e, n, Nat.ne_of_lt (Heap.lt_size e), fun z => ?_, d⟩
    rcases List.mem_cons.mp (I.stkSub _ z) with q | q
    · exact ne q
    · exact nf q
  · show σ.length + 1 = (x :: wW x X.N).length
    unfold wW
    rw [List.length_cons, List.length_map, I.len]
theorem zfk {s' : Shared} {h' : Heap} {H' : Hp} {σ' : St} {ps : List (Addr × Obj)} (I : Inv X pins σ H₃ s₃) (hf : ∀ b ∈ fp, xr X pins H₃ b) (J : Inv (yh X scope x s₃ H₃ fp pins) ps σ' H' s') (hs : Heap.SameBut s₃.heap.objs.size s'.heap h') :
    Inv X pins σ H' { s' with heap := h' } := by
  have ne : ∀ b o, s₃.heap.get? b = some o → b ≠ s₃.heap.objs.size := fun b o e => Nat.ne_of_lt (Heap.lt_size e)
  have fr : H' s₃.heap.objs.size = Option.none := J.free
  have same : ∀ b, b ≠ s₃.heap.objs.size → h'.get? b = s'.heap.get? b := fun b hb => hs.2 b hb
  refine I.call' (s' := { s' with heap := h' }) (ch := fp) J.os ⟨fun b o e n hb hx => ?_, fun b o e n hb hx => ?_, fun b o e n hx => J.base.free b o e n hx, fun b o e hx => ?_, J.base.tups, J.base.frzs, J.base.tbls⟩ (fun b o e => ?_) J.bare fun b hb => ?_
  · exact (same b (ne b o e)).trans (J.base.keep b o e n hb hx)
  · obtain ⟨sl, q⟩ := J.base.slot b o e n hb hx
    exact ⟨sl, (same b (ne b o e)).trans q⟩
  · obtain ⟨o', q⟩ := J.base.there b o e hx
    exact ⟨o', (same b (ne b o e)).trans q⟩
  · refine (J.hok b o e).stay (fun c v hc q => (same c ?_).trans q) (fun _ q => q) fun _ _ q => q
    intro z
    rcases hc with w | w
    · rw [← w, z, fr] at e; cases e
    · rw [z, fr] at w; cases w
  · obtain ⟨_, h1, _, h3, h4, h5⟩ := hf b hb
    exact ⟨h3, h1, h4, h5⟩
end
theorem zfl {prog : Program} {w : World} {A : Around} {E : Result → Shared → Prop} {s : Shared} {elt target iter : Expr} {ifs : List Expr} {scope : Scope} {pos : Pos} {it acc : Value} {env : PySem.Env} (J : Nat → Shared → Prop)
    (turn : ∀ n s, J n s → wpAny (model prog w) A (pyNext it) (fun r s1 => match r with
      | Option.none => E (.ok .next) s1
      | some v => wpAny (model prog w) A (letOwnedTupleGo target it v) (fun _ s2 => wpAny (model prog w) A (assign target env v) (fun _ s3 =>
          wpAny (model prog w) A (forIn ifs true fun c r => if r = true then do let ok ← isTrue c env (eval c env); pure (ForInStep.yield ok) else pure (ForInStep.yield r)) (fun ok s4 =>
            if ok = true then wpAny (model prog w) A (eval elt env) (fun y s5 => wpAny (model prog w) A (call (.builtin "list.append") [acc, y]) (fun _ s6 => ∃ m, m < n ∧ J m s6) (fun _ _ => False) s5) (fun _ _ => False) s4
            else ∃ m, m < n ∧ J m s4) (fun _ _ => False) s3) (fun _ _ => False) s2) (fun _ _ => False) s1) (fun _ _ => False) s)
    (n : Nat) (h : J n s) : codeAny (model prog w) A (.compLoop (.ListComp elt [⟨target, iter, ifs, 0⟩] scope pos) 0 it acc env) E s := by
  refine codeAny_loop rfl J (fun n s hJ => ?_) n h
  show wpAny _ _ ((compTurn (.ListComp elt [⟨target, iter, ifs, 0⟩] scope pos) 0 it acc env).onRaise _) _ _ s
  refine wpAny_noted ?_
  rw [compTurn_list]
  have no : ∀ (e : Value) (s' : Shared), False → notedBy (model prog w) A env (fun e s' => E (.error e) s') e s' := fun _ _ z => z.elim
  refine wpAny_bind (wpAny_standAt (wpAny_bind (wpAny_mono (turn n s hJ) (fun r s1 h1 => ?_) no)))
  cases r with
  | none => exact wpAny_pure h1
  | some v =>
    refine wpAny_bind (wpAny_mono h1 (fun _ s2 h2 => ?_) no)
    refine wpAny_bind (wpAny_mono h2 (fun _ s3 h3 => wpAny_bind (wpAny_mono h3 (fun ok s4 h4 => ?_) no)) no)
    cases ok with
    | false => exact wpAny_pure ⟨rfl, h4⟩
    | true => exact wpAny_bind (wpAny_bind (wpAny_mono h4 (fun y s5 h5 => wpAny_bind (wpAny_mono h5 (fun _ s6 h6 => wpAny_pure (wpAny_pure ⟨rfl, h6⟩)) no)) no))
theorem R.cons {K : PySem.W.Frag} {W : Addr → Prop} {ρ : LW.Env} {σ : St} {H : Hp} {d : D} {v : V} (r : R K W ρ σ H) (h : Rep K W H d v) : R K W (some (.val d) :: ρ) (some v :: σ) H := by
  refine ⟨fun i e hi => ?_, fun i e hi => ?_, fun i x e hi hc => ?_, fun i j x y d e a h1 h2 c1 c2 h3 h4 => ?_, r.wf, by simpa using r.len⟩
  · cases i with
    | zero => cases hi; exact ⟨v, rfl, h⟩
    | succ i => exact r.val i e hi
  · cases i with
    | zero => cases hi
    | succ i => exact r.nol i e hi
  · cases i with
    | zero => cases hi; cases hc
    | succ i => exact r.own i x e hi hc
  · cases i with
    | zero => cases h1; cases c1
    | succ i =>
      cases j with
      | zero => cases h2; cases c2
      | succ j => rw [r.inj i j x y d e a h1 h2 c1 c2 h3 h4]
noncomputable def Jl (X : Cx) (fn : Nat → List D → Option SV) (scope : Scope) (x : Str) (ifs : List Expr) (cond : E) : Prop :=
  (ifs = [] ∧ cond = .bl true) ∨ ∃ c, ifs = [c] ∧ ∀ s₃ H₃ fp pins, IT (yh X scope x s₃ H₃ fp pins) fn c cond
section
variable {X : Cx} {fn : Nat → List D → Option SV}
theorem zfm {scope : Scope} {x : Str} {ifs : List Expr} {cond : E} {s₃ : Shared} {H₃ : Hp} {fp : List Addr} {pins ps : List (Addr × Obj)} {σ : St} {H : Hp} {s : Shared} {W : Addr → Prop} {ρ : LW.Env} {k : Bool} {Q : Bool → Hp → Prop}
    (hc : Jl X fn scope x ifs cond) (I : Inv (yh X scope x s₃ H₃ fp pins) ps σ H s) (hR : R X.K W ρ σ H) (he : zx fn cond ρ = some k) (q : ∀ H', Same H H' → Q k H') :
    wpAny (model X.prog X.w) X.A (forIn ifs true fun c r => if r = true then do let ok ← isTrue c (yh X scope x s₃ H₃ fp pins).env (eval c (yh X scope x s₃ H₃ fp pins).env); pure (ForInStep.yield ok) else pure (ForInStep.yield r))
      (TP (yh X scope x s₃ H₃ fp pins) ps σ Q) (fun _ _ => False) s := by
  rcases hc with ⟨rfl, rfl⟩ | ⟨c, rfl, hc⟩
  · simp only [zet] at he
    cases he
    exact wpAny_tests_nil ⟨H, I, q H (.refl H)⟩
  · exact wpAny_tests_one ((hc s₃ H₃ fp pins).h ps s σ H Q I ⟨W, ρ, k, hR, he, q⟩)
theorem Jm {test : D → Option Bool} {elt : D → Option SV} : ∀ {ds out : List D}, yH test elt ds = some out → out.length ≤ ds.length
  | [], _, h => by simp only [yH] at h; cases h; exact Nat.le_refl _
  | d :: r, out, h => by
    simp only [yH, jo1] at h
    obtain ⟨b, e1, e2⟩ := h
    cases b with
    | true =>
      simp only [jo1, jo2] at e2
      obtain ⟨_, _, _, _, l, e3, rfl⟩ := e2
      have := Jm e3
      simp; omega
    | false => have := Jm e2; simp; omega
theorem zfn {scope : Scope} {x : Str} {s₃ : Shared} {H₃ H' : Hp} {fp : List Addr} {pins : List (Addr × Obj)} {σ : St} (S : CompSc X scope x) (I : Inv X pins σ H₃ s₃) (hf : ∀ b ∈ fp, xr X pins H₃ b) (hlt : ∀ b ∈ fp, b < s₃.heap.objs.size)
    (hn : ∀ b ∈ fp, H' b = Option.none) : ∀ b ∈ fp, xr (yh X scope x s₃ H₃ fp pins) [] H' b := fun b hb => by
  have ok := qK S I hf hlt
  refine ⟨hn b hb, (ok.exf b hb).1, ok.exfs b hb, .inl hb, (ok.exf b hb).2, fun p hp => ?_⟩
  have hp : p ∈ X.pn ++ pins := by simpa [yh] using hp
  exact (hf b hb).2.2.2.2.2 p hp
structure CSt (X : Cx) (scope : Scope) (x : Str) (s₃ : Shared) (H₃ : Hp) (fp : List Addr) (pins : List (Addr × Obj)) (σ : St) (tn : Nat → Heap → Prop) (H2 : Hp) (W : Addr → Prop) (L : Addr) (test : D → Option Bool) (elt : D → Option SV) (ds out : List D)
    (n k : Nat) (y : Option V) (H' : Hp) (ys : List V) (out1 zX : List D) (s' : Shared) : Prop where
  inv : Inv (yh X scope x s₃ H₃ fp pins) [] (y :: σ) H' s'
  htn : tn k s'.heap
  hfp : ∀ b ∈ fp, H' b = Option.none
  hn : n = ds.length + 1 - k
  hk : k ≤ ds.length
  same : Same H2 H'
  lst : H' L = some (.lst ys)
  reps : Reps X.K (add W L) H' out1 ys
  hrest : yH test elt (ds.drop k) = some zX
  hout : out = out1 ++ zX
theorem zfo {iter elt : Expr} {x : Str} {px pos pos2 : Pos} {ifs : List Expr} {scope : Scope} {rng : Bool} {src : Es} {cond ce : E} {pins : List (Addr × Obj)} {s : Shared} {σ : St} {H : Hp} {W : Addr → Prop} {ρ : LW.Env} {rs : List SV} {ds out : List D} {use : Option (Value → Sem Unit)} {Qe : Value → Shared → Prop}
    (hcalm : X.calm = true) (S : CompSc X scope x) (hsrc : Src X fn (.Name x px) iter rng src)
    (hcond : Jl X fn scope x ifs cond) (helt : ∀ s₃ H₃ fp pins, IE (yh X scope x s₃ H₃ fp pins) fn elt ce) (hfo : ∀ y, foldedSetIterable iter X.env y = pure y) (I : Inv X pins σ H s) (hR : R X.K W ρ σ H)
    (e1 : zN fn src ρ = some rs) (e2 : zU rng rs = some ds) (hline : ds.length ≤ line) (e3 : yH (fun d => zx fn cond (some (.val d) :: ρ)) (fun d => zf fn ce (some (.val d) :: ρ)) ds = some out)
    (fin : ∀ (s4 : Shared) (fl : Flow) (m : Str → Option Value) (C L : Addr) (H' : Hp), s4.heap.Ns C m → (∀ h', Heap.SameBut C s4.heap h' → Inv X pins σ H' { s4 with heap := h' }) → (X.s₀.heap.objs.size ≤ C ∧ C ≠ X.env.locals ∧ (∀ y c, X.env.cells.lookup y = some c → c ≠ C) ∧ (∀ p ∈ X.pn ++ pins, p.1 ≠ C) ∧ H' C = Option.none) → Same H H' →
      Res X.K W H H' (.obj true (.lst out)) (.ref L) → compPost (model X.prog X.w) X.A X.xe use Qe (.ref L) C (.ok fl) s4) :
    wpAny (model X.prog X.w) X.A (comprehension (.ListComp elt [⟨.Name x px, iter, ifs, 0⟩] scope pos) scope X.env pos2 (newList []) false (eval iter X.env) use) Qe X.xe s := by
  have hclos := zfg (scope := scope) (env := X.env) (S.cells I.ok)
  refine wpAny_comprehension_free (use := use) rfl hfo hclos S.kind S.names ?_
  refine zq (hsrc.h pins s σ H (fun J H2 => Same H H2 ∧ Ys X.K J W H2 ds) I ⟨W, ρ, rs, ds, hR, e1, e2, fun J H' s1 y _ => ⟨s1, y⟩⟩) fun v s1 h1 => zq h1 fun itv s2 h2 => ?_
  obtain ⟨it, fp, tn, J, H2, rfl, I2, T, st2, f2, sm, hy⟩ := h2
  refine wpAny_newObj_type (zfh S fun h₁ hns₁ hk₁ hc₁ => ?_)
  have I3 := I2.lnew (t' := s2.toks) (ys := []) (its := []) .nil (Nat.zero_le _)
  have hD : H2 s2.heap.objs.size = Option.none := I2.fresh
  generalize hL : s2.heap.objs.size = L at hD
  generalize hs3 : ({ s2 with heap := s2.heap.push { cls := .type "list", data := .seq ([] : List Value).toArray }, toks := s2.toks } : Shared) = s₃ at I3
  have hs3h : s₃.heap = s2.heap.push { cls := .type "list", data := .seq ([] : List Value).toArray } := by rw [← hs3]
  rw [hL] at I3
  generalize hH3 : zJ H2 L (.lst []) = H₃ at I3
  have blt : ∀ b ∈ fp, b < s2.heap.objs.size := fun b hb => by
    obtain ⟨o, e, _⟩ := T.obj _ _ st2 b hb
    exact Heap.lt_size e
  have hlt : ∀ b ∈ fp, b < s₃.heap.objs.size := fun b hb => by rw [hs3h, Heap.size_push]; exact Nat.lt_succ_of_lt (blt b hb)
  have hf : ∀ b ∈ fp, xr X pins H₃ b := fun b hb => by
    refine ⟨?_, (f2 b hb).2⟩
    rw [← hH3, zL (by rw [← hL]; exact Nat.ne_of_lt (blt b hb))]
    exact (f2 b hb).1
  have keep1 : ∀ b o, s₃.heap.get? b = some o → h₁.get? b = some o := fun b o e => by
    rw [hs3h] at e
    exact hk₁ b o e
  have ns1 : h₁.Ns s₃.heap.objs.size fun _ => Option.none := by rw [hs3h]; exact hns₁
  have Ic := zfj (tk := s2.toks) S I3 hf hlt ns1 keep1 (by rw [hs3h]; exact hc₁)
  have fpc := fun {H' : Hp} hn => zfn (H' := H') S I3 hf hlt hn
  have win : ∀ b, add W L b → W b ∨ H2 b = Option.none := fun b w => by
    rcases w with w | rfl
    · exact .inl w
    · exact .inr hD
  have hRL : ∀ {H' : Hp} {ys : List V}, Same H2 H' → H' L = some (.lst ys) → R X.K (add W L) ρ σ H' := fun {H' ys} sm' e => (hR.same sm).add sm' hD e
  have lenO : out.length ≤ ds.length := Jm e3
  have loop : ∀ s' : Shared, s' = { s₃ with heap := h₁, toks := s2.toks } → codeAny (model X.prog X.w) X.A (.compLoop (.ListComp elt [⟨.Name x px, iter, ifs, 0⟩] scope pos) 0 (.ref it) (.ref L) (yh X scope x s₃ H₃ fp pins).env)
      (compPost (model X.prog X.w) X.A X.xe use Qe (.ref L) s₃.heap.objs.size) s' := by
    rintro s' rfl
    refine zfl (fun n s' => ∃ k y H' ys out1 zX, CSt X scope x s₃ H₃ fp pins σ tn H2 W L (fun d => zx fn cond (some (.val d) :: ρ)) (fun d => zf fn ce (some (.val d) :: ρ)) ds out n k y H' ys out1 zX s') ?_ (ds.length + 1)
      ⟨0, Option.none, H₃, [], [], out, Ic, T.keep _ _ _ st2 (fun b hb o e => keep1 b o (by rw [hs3h]; exact Heap.get?_push_of_some _ e)), fun b hb => (hf b hb).1, rfl, Nat.zero_le _, by rw [← hH3]; exact xR hD _, by rw [← hH3]; exact wm, .nil, e3, rfl⟩
    rintro n s' ⟨k, y, H', ys, out1, zX, c⟩
    obtain ⟨hstop, hgo⟩ := hy (add W L) H' c.same win k
    by_cases hk : k < ds.length
    · have hd : ds[k]? = some ds[k] := by simp [hk]
      obtain ⟨g1, g2⟩ := hgo _ hd
      have crest := c.hrest
      rw [Jh hd] at crest
      simp only [yH, jo1] at crest
      obtain ⟨b, t1, t2⟩ := crest
      refine zq (T.item (yh X scope x s₃ H₃ fp pins) rfl rfl rfl hcalm k [] s' (y :: σ) H' _ c.inv (fpc c.hfp) c.htn g1) fun r s4 ⟨u, hr, h4⟩ => ?_
      subst hr
      refine zq h4 fun _ s5 ⟨xv, H5, I5, r5, y5, st5, fr5⟩ => ?_
      obtain ⟨rfl, rv⟩ := g2 xv H5 y5
      have I5' := I5.pinned (fpc fr5) (T.obj _ _ st5)
      refine zq (Yp (X := yh X scope x s₃ H₃ fp pins) (i := 0) S.nd rfl S.locX S.fnX _ s5 (y :: σ) H5 xv u (fun σ' H' => σ' = some xv :: σ ∧ H' = H5) I5' r5 ⟨rfl, rfl⟩) fun _ s6 ⟨σ6, H6, I6, q6, q7⟩ => ?_
      subst q6 q7
      have hRc := (hRL c.same c.lst).cons rv
      refine zq (zfm (Q := fun b' H7 => b' = b ∧ Same H6 H7) hcond I6 hRc t1 fun H7 s7 => ⟨rfl, s7⟩) fun ok s7 ⟨H7, I7, q7, m7⟩ => ?_
      subst q7
      have back : ∀ {s' : Shared} {H' : Hp}, Inv (yh X scope x s₃ H₃ fp pins) ([] ++ jU fp s5.heap) (some xv :: σ) H' s' → tn (k + 1) s'.heap ∧ ∀ b ∈ fp, H' b = Option.none := fun {s' H'} J => by
        refine ⟨T.keep _ _ _ st5 fun b hb o e => (J.pin (b, o) (List.mem_append_right _ (List.mem_append_right _ (Yr hb e)))).1, fun b hb => ?_⟩
        obtain ⟨o, e, d⟩ := T.obj _ _ st5 b hb
        exact (J.pin (b, o) (List.mem_append_right _ (List.mem_append_right _ (Yr hb e)))).2.1
      cases ok with
      | false =>
        rw [if_neg Bool.false_ne_true]
        have bk := back I7
        exact ⟨_, by have := c.hn; omega, k + 1, some xv, H7, ys, out1, zX, I7.unpinned, bk.1, bk.2, rfl, hk, c.same.trans m7, m7 _ _ c.lst, c.reps.ext (.same m7), t2, c.hout⟩
      | true =>
        rw [if_pos rfl]
        simp only [jo1, jo2] at t2
        obtain ⟨r8, t3, d8, t4, rest', t5, rfl⟩ := t2
        have hR7 := hRc.same m7
        refine zq ((helt s₃ H₃ fp pins).h _ s7 _ H7 (fun v H8 => Same H7 H8 ∧ Rep X.K (add W L) H8 d8 v) I7 ⟨add W L, _, r8, hR7, t3, fun v8 H8 m8 res => ⟨m8, (res.frz hR7.wf).toD t4⟩⟩) fun u8 s8 ⟨v8, H8, I8, rl8, m8, rp8⟩ => ?_
        have lst8 := m8 _ _ (m7 _ _ c.lst)
        have lenY := c.reps.length
        have lenT := congrArg List.length c.hout
        rw [List.length_append, List.length_cons] at lenT
        have le := VL
        refine zq (kF (X := yh X scope x s₃ H₃ fp pins) _ s8 _ H8 (.ref L) [v8] (.ref L) [u8] (fun _ H9 => H9 = zJ H8 L (.lst (ys ++ [v8]))) I8 rfl (.cons rl8 .nil) ⟨L, ys, v8, rfl, rfl, lst8, by omega, rfl⟩) fun _ s9 ⟨_, H9, I9, _, q9⟩ => ?_
        subst q9
        have bk := back I9
        have ext : Ext (add W L) H8 (add W L) (zJ H8 L (.lst (ys ++ [v8]))) := by
          refine ⟨fun b o q n => ?_, fun b zs q => ?_, fun b o u q => ?_, fun b w => .inl w⟩
          · rw [zL (fun z => n (.inr z))]; exact q
          · rw [zL (fun z => by rw [z, lst8] at q; cases q)]; exact q
          · rw [zL (fun z => by rw [z, lst8] at q; cases q)]; exact q
        have smL : Same H2 (zJ H8 L (.lst (ys ++ [v8]))) := fun b o q => by
          rw [zL (fun z => by rw [z, hD] at q; cases q)]
          exact m8 _ _ (m7 _ _ (c.same _ _ q))
        exact ⟨_, by have := c.hn; omega, k + 1, some xv, _, ys ++ [v8], out1 ++ [d8], rest', I9.unpinned, bk.1, bk.2, rfl, hk, smL, wm, ((c.reps.ext (.same (m7.trans m8))).ext ext).append (.cons (rp8.ext ext) .nil), t5, by rw [c.hout]; simp⟩
    · have ek : k = ds.length := by have := c.hk; omega
      refine zq (T.done (yh X scope x s₃ H₃ fp pins) rfl rfl rfl hcalm k [] s' (y :: σ) H' _ c.inv (fpc c.hfp) c.htn (hstop ek)) fun r s4 ⟨hr, I4⟩ => ?_
      subst hr
      obtain ⟨m, hn, _⟩ := I4.loc
      have er := c.hrest
      rw [List.drop_of_length_le (by omega), yH] at er
      cases er
      have eo := c.hout
      rw [List.append_nil] at eo
      refine fin s4 _ m _ L H' hn (fun h' hs => zfk I3 hf I4 hs) ⟨I3.sz, (Nat.ne_of_lt I3.lt).symm, fun y cc hc => ?_, fun p hp => ?_, I4.free⟩ (sm.trans c.same) (by rw [eo]; exact .new (sm.free hD) c.lst (.lst c.reps))
      · obtain ⟨v, o, ho, _⟩ := I3.cell y cc hc
        exact Nat.ne_of_lt (Heap.lt_size ho)
      · exact Nat.ne_of_lt (Heap.lt_size (I3.pin p hp).1)
  have st0 : tn 0 h₁ := T.keep _ _ _ st2 (fun b hb o e => keep1 b o (by rw [hs3h]; exact Heap.get?_push_of_some _ e))
  subst hs3 hL
  exact codeAny_compStart_list (loop _ rfl) (T.self X.A 0 _ _ _ st0 (loop _ rfl))
theorem wv {iter elt : Expr} {x : Str} {px pos : Pos} {ifs : List Expr} {scope : Scope} {rng : Bool} {src : Es} {cond ce : E} (hcalm : X.calm = true) (S : CompSc X scope x) (hsrc : Src X fn (.Name x px) iter rng src)
    (hcond : Jl X fn scope x ifs cond) (helt : ∀ s₃ H₃ fp pins, IE (yh X scope x s₃ H₃ fp pins) fn elt ce) (hfo : ∀ y, foldedSetIterable iter X.env y = pure y := by intro _; rfl) :
    IE X fn (.ListComp elt [⟨.Name x px, iter, ifs, 0⟩] scope pos) (.comp rng src cond ce) := by
  refine .mk ?_
  rintro pins s σ H Q I ⟨W, ρ, r, hR, he, q⟩
  simp only [VF, jo1] at he
  obtain ⟨rs, e1, ds, e2, e3⟩ := he
  split at e3
  case isFalse => cases e3
  rename_i hline
  rw [jo2] at e3
  obtain ⟨out, e3, rfl⟩ := e3
  rw [eval_ListComp]
  refine zfo (use := Option.none) hcalm S hsrc hcond helt hfo I hR e1 e2 hline e3 fun s4 fl m C L H' hn back _ sm res => ?_
  exact ⟨m, hn, fun h' hs => ⟨.ref L, H', back h' hs, rfl, q _ H' sm res⟩⟩
end
end L2.LW
set_option maxHeartbeats 4000000
namespace L2.LW
open PySem PySem.Spec PyProof.Rows
noncomputable def Zx : Ty → String
  | .bool => "bool" | .int => "int" | .str => "str" | .list => "list" | .tuple => "tuple"
noncomputable def zfp : D → String
  | .int _ => "int" | .bl _ => "bool" | .non => "NoneType" | .str _ => "str" | .tup _ => "tuple" | .lst _ => "list" | .dct _ _ _ => "dict"
theorem zfq (K : PySem.W.Frag) (d : D) (t : Ty) : PySem.W.kitOne K (.type (zfp d)) (.type (Zx t)) = some (wp t d) := by
  cases d <;> cases t <;> rfl
section
variable {X : Cx} {fn : Nat → List D → Option SV}
theorem zfr {pins : List (Addr × Obj)} {σ : St} {H : Hp} {s : Shared} {W : Addr → Prop} {A : Around} {E Q : Value → Shared → Prop} {d : D} {x : V} {u : Value} {t : Ty} (I : Inv X pins σ H s) (h : Sees X.K W H d x) (r : RelV x u)
    (q : ∀ tk, Q (.bool (wp t d)) { s with toks := tk }) : wpAny (model X.prog X.w) A (call (.builtin "isinstance") [u, .type (Zx t)]) Q E s := by
  have e := zfq X.K d t
  cases d with
  | int i => cases h.int; obtain ⟨tk, rfl⟩ := r; exact PySem.W.kia_one PySem.W.kitx_int I.kIn True.intro e (fun z => nomatch z) q
  | bl b => cases h.bl; cases r; exact PySem.W.kia_one PySem.W.kitx_bool I.kIn True.intro e (fun z => nomatch z) q
  | non => cases h.non; cases r; exact PySem.W.kia_one PySem.W.kitx_none I.kIn True.intro e (fun z => nomatch z) q
  | str y => cases h.str; obtain ⟨tk, rfl⟩ := r; exact PySem.W.kia_one PySem.W.kitx_str I.kIn True.intro e (fun z => nomatch z) q
  | tup l =>
    obtain ⟨a, xs, rfl, hq, _⟩ := h.tup
    cases r
    obtain ⟨its, rv, ⟨o, ho, hc, n, hd⟩, hz⟩ := I.tuple hq
    exact PySem.W.kia_one PySem.W.kitx_tuple I.kIn ⟨o, ho, hc⟩ e (fun z => nomatch z) q
  | lst l =>
    obtain ⟨a, xs, rfl, hq, _⟩ := h.lst
    cases r
    obtain ⟨its, rv, ⟨o, n, ho, hc, _, hd⟩, hz⟩ := I.list hq
    exact PySem.W.kia_one PySem.W.kitx_list I.kIn ⟨o, ho, hc⟩ e (fun z => nomatch z) q
  | dct b ks vs =>
    cases b with
    | false =>
      obtain ⟨a, ns, ys, rfl, _, hH, _⟩ := h.dK
      cases r
      obtain ⟨_, _, vs, _, ob, _, _, h1, h2, _⟩ := Yx I.hok hH
      exact PySem.W.kia_one PySem.W.kitx_dict I.kIn ⟨ob, h1, h2.1⟩ e (fun z => nomatch z) q
    | true =>
      obtain ⟨a, ns, ys, rfl, _, hH, _⟩ := h.dT
      cases r
      obtain ⟨_, _, xs, _, ob, _, _, h1, h2, _⟩ := Yy I.hok (.inl hH)
      exact PySem.W.kia_one PySem.W.kitx_dict I.kIn ⟨ob, h1, h2.1⟩ e (fun z => nomatch z) q
theorem zfs (t : Ty) : CallR X (.builtin "isinstance") (fun xs H Q => ∃ x, xs = [x, .ty (Zx t)] ∧ VR X.K (zb (.inst t)) [x] H Q) := by
  rintro pins s σ H xs us Q I rv ⟨x, rfl, W, ds, r, wf, hs, hf, q⟩
  obtain ⟨d, rfl, h1⟩ := YS hs
  replace hf : kS t [d] = some r := hf
  cases hf
  obtain ⟨u, w', rfl, r1, r2⟩ := zc0 rv
  cases r2
  exact zfr I h1 r1 fun tk => ⟨.bl _, H, I.tok tk, rfl, q _ H (.refl H) (.val (.bl _))⟩
theorem vP {a : Expr} {ca : E} {t : Ty} {y : Str} {p p2 pos : Pos} (hg : Gl X "isinstance") (hm : X.mg "isinstance" = Option.none) (hg2 : Gl X y) (hm2 : X.mg y = Option.none) (hv : bootBuiltins y = some (.type (Zx t))) (ha : IE X fn a ca)
    (hn : y ≠ "__name__" := by decide) (hdb : (y == ("__debug__" : Str)) = false := by decide)
    (h1 : starEach [a, .Name y p2] X.env = (false, eval a X.env) :: starEach [.Name y p2] X.env := by rfl) (h2 : starEach [.Name y p2] X.env = (false, eval (.Name y p2) X.env) :: starEach [] X.env := by rfl)
    (hpl : (backTo pos (starEach [.Name y p2] X.env)).any (·.1) = false := by rfl) :
    IE X fn (.Call (.Name "isinstance" p) [a, .Name y p2] [] pos) (.prim (.inst t) (.cons ca .nil)) :=
  .mk <| (Vq (zfs t) hg hm PyProof.Rows.boot_isinstance (wB ha.v (wB (QQ hg2 hm2 hv (v := .ty (Zx t)) rfl hn hdb) vi h2) h1) (by decide) (by decide) h1 hpl).imp fun σ H Q zz3 => by
    obtain ⟨W, ρ, r, hR, he, q⟩ := zz3
    simp only [xE, yW, yX, jo1, jo2] at he
    obtain ⟨rs, ⟨r1, e1, rs', e3, rfl⟩, e4⟩ := he
    cases e3
    exact ⟨W, ρ, r1, hR, e1, fun v1 H1 s1 f1 => ⟨v1, rfl, vL hR s1 (.cons f1 .nil) e4 q⟩⟩
theorem zft {K : PySem.W.Frag} {W : Addr → Prop} {H : Hp} {d : D} {v : V} (h : Sees K W H d v) : decide (v = .non) = wO d := by
  cases d with
  | int i => cases h.int; rfl
  | bl i => cases h.bl; rfl
  | str i => cases h.str; rfl
  | non => cases h.non; rfl
  | tup l => obtain ⟨a, xs, rfl, _⟩ := h.tup; rfl
  | lst l => obtain ⟨a, xs, rfl, _⟩ := h.lst; rfl
  | dct b ks vs =>
    cases b with
    | false => obtain ⟨a, ns, ys, rfl, _⟩ := h.dK; rfl
    | true => obtain ⟨a, ns, ys, rfl, _⟩ := h.dT; rfl
theorem zfu {a : Expr} {ca : E} {j : Nat} {p pos : Pos} (ha : IE X fn a ca) : IT X fn (.Compare a [.Is] [.Constant .none j p] pos) (.prim .isN (.cons ca .nil)) :=
  .mk <| (zb3 (zb2 ha.v)).imp fun σ H Q zz3 => by
    obtain ⟨W, ρ, k, hR, he, q⟩ := zz3
    simp only [VG, yW, yX, jo1, jo2] at he
    obtain ⟨rs, ⟨r1, e1, rs', e3, rfl⟩, r2, e4, e5⟩ := he
    cases e3; cases e4; cases e5
    refine ⟨W, ρ, r1, hR, e1, fun v1 H1 s1 f1 => ⟨_, rfl, ?_⟩⟩
    rw [zft f1.sees]
    exact q H1 s1
theorem qL {K : PySem.W.Frag} {W : Addr → Prop} {H : Hp} : ∀ {ds : List D} {xs : List V} {bs : List Bool}, Reps K W H ds xs → bools? ds = some bs → xs = bs.map V.bl
  | _, _, bs, .nil, e => by simp [bools?] at e; subst e; rfl
  | _, _, bs, .cons h t, e => by
    cases h with
    | bl i =>
      simp only [bools?, jo2] at e
      obtain ⟨ms, e1, rfl⟩ := e
      rw [qL t e1]; rfl
    | _ => simp [bools?] at e
theorem qM : ∀ {bs : List Bool} {us : List Value}, Vals (bs.map V.bl) us → us = bs.map Value.bool
  | [], us, r => by cases r; rfl
  | b :: bs, us, r => by
    cases r with
    | cons h t => cases h; rw [qM t]; rfl
theorem zfv (bs : List Bool) : ((List.range bs.length).all fun i => bs.getD i true) = bs.all id := by
  induction bs with
  | nil => rfl
  | cons b r ih =>
    rw [List.length_cons, List.range_succ_eq_map, List.all_cons, List.all_map, List.all_cons]
    simp only [Function.comp_def, List.getD_cons_succ, List.getD_cons_zero]
    rw [ih]; rfl
theorem qN (hc : X.calm = true) : CallR X (.builtin "all") (VR X.K (zb .all)) := by
  rintro pins s σ H xs us Q I rv ⟨W, ds, r, wf, hs, hf, q⟩
  replace hf : YL ds = some r := hf
  unfold YL at hf
  split at hf
  · rename_i l
    rw [jo1] at hf
    obtain ⟨bs, e1, hf⟩ := hf
    cases hf
    cases hs with
    | cons h1 t =>
      cases t
      obtain ⟨p, ys, rfl, hp, rp⟩ := h1.lst
      have ey := qL rp e1
      subst ey
      obtain ⟨u, rfl, ru⟩ := wo rv
      cases ru
      obtain ⟨its, rv', pl, hz⟩ := I.list hp
      have ei := qM rv'
      subst ei
      obtain ⟨o, n, ho, hcl, hdi, hda⟩ := id pl
      have hne : p ≠ s.heap.objs.size := Nat.ne_of_lt (Heap.lt_size ho)
      refine call_all_walk (wpAny_pyIter_list pl.isList ?_)
      refine ⟨s.heap.objs.size, _, _, _, _, _, fun i => bs.getD i true, rfl, Walks.list (A := X.A.in1) (I.ok.hd hc) s.heap.objs.size p hne (bs.map Value.bool).toArray, ⟨⟨_, Heap.get?_push_size _ rfl, rfl, rfl⟩, ⟨o, Heap.get?_push_of_some _ ho, hcl, n, hda⟩⟩, ?_, fun h' tk hk => ?_⟩
      · intro i v s' Q' E' hv hQ
        have hv : (bs.map Value.bool).toArray[i]? = some v := hv
        rw [List.getElem?_toArray, List.getElem?_map, jo2] at hv
        obtain ⟨b, e2, rfl⟩ := hv
        have e3 : bs.getD i true = b := by rw [List.getD_eq_getElem?_getD, e2]; rfl
        have hQ : Q' (bs.getD i true) s' := hQ
        rw [e3] at hQ
        exact wpAny_truthy_bool hQ
      · rw [List.size_toArray, List.length_map, zfv]
        refine ⟨.bl _, H, I.kept (t' := tk) (fun b o' e => ?_), rfl, q _ H (.refl H) (.val (.bl _))⟩
        exact hk b o' (by simpa using Nat.ne_of_lt (Heap.lt_size e)) (Heap.get?_push_of_some _ e)
  · cases hf
theorem zfw (xs : List V) (k : Int) (hk : 0 ≤ k) : vk xs Option.none (some k) = xs.take k.toNat := by
  obtain ⟨n, rfl⟩ := Int.eq_ofNat_of_zero_le hk
  unfold vk
  rw [HT.sIx_none, HT.sIx_nat, List.drop_zero, Nat.sub_zero, Int.toNat_natCast]
  rcases Nat.le_total n xs.length with h | h
  · rw [Nat.min_eq_left h]
  · rw [Nat.min_eq_right h, List.take_of_length_le (Nat.le_refl _), List.take_of_length_le h]
theorem Jn {a b : Expr} {ca cb : E} {p pos : Pos} (ha : IE X fn a ca) (hb : IE X fn b cb) : IE X fn (.Subscript a (.Slice Option.none (some b) Option.none p) pos) (.prim .cutTo (.cons ca (.cons cb .nil))) :=
  .mk <| (Yv kB ha.v Yt (Yu hb.v)).imp fun σ H Q zz3 => by
    obtain ⟨W, ρ, r, hR, he, q⟩ := zz3
    simp only [xE, yW, yX, jo1, jo2] at he
    obtain ⟨rs, ⟨r1, e1, rs', ⟨r2, e2, rs'', e3, rfl⟩, rfl⟩, e4⟩ := he
    cases e3
    refine ⟨W, ρ, r1, hR, e1, fun v1 H1 s1 f1 => ⟨W, ρ, r2, hR.same s1, e2, fun v2 H2 s2 f2 => ?_⟩⟩
    replace e4 : jp [zu r1, zu r2] = some r := e4
    unfold jp at e4
    split at e4
    · rename_i l k z
      have h1 := (f1.same s2).sees
      have h2 := f2.sees
      injection z with z1 z2
      injection z2 with z2 _
      rw [z1] at h1
      rw [z2] at h2
      split at e4
      · rename_i hk
        cases e4
        obtain ⟨p, xs, rfl, hp, rp⟩ := h1.lst
        cases h2.int
        refine ⟨k, rfl, p, xs, rfl, hp, fun p' hp' => ?_⟩
        rw [zfw xs k hk]
        have s12 := s1.trans s2
        exact q _ _ (s12.trans (xR hp' _)) ((Zp hp' (rp.take _)).back s12)
      · cases e4
    · cases e4
theorem ww {scope : Scope} {env : PySem.Env} {y : Str} (h : scope.names.lookup y = some .free) : xX (relabel scope env) y := by
  unfold xX relabel
  have key : ∀ (names : List (Str × NameKind)), names.lookup y = some .free →
      (names.map fun (z : Str × NameKind) => match z with | (n, k) => if (k == NameKind.free && env.scope.kind == .function && env.kindOf n == some .cell) = true then (n, NameKind.cell) else (n, k)).lookup y = some .cell ∨
      (names.map fun (z : Str × NameKind) => match z with | (n, k) => if (k == NameKind.free && env.scope.kind == .function && env.kindOf n == some .cell) = true then (n, NameKind.cell) else (n, k)).lookup y = some .free := by
    intro names
    induction names with
    | nil => intro h; cases h
    | cons z r ih =>
      obtain ⟨n, j⟩ := z
      intro h
      rw [List.lookup_cons] at h
      rw [List.map_cons, List.lookup_cons]
      by_cases hc : (j == NameKind.free && env.scope.kind == .function && env.kindOf n == some .cell) = true
      · simp only [hc, if_true]
        cases e : y == n with
        | true => exact .inl rfl
        | false => rw [e] at h; exact ih h
      · simp only [hc, Bool.false_eq_true, if_false]
        cases e : y == n with
        | true => rw [e] at h; exact .inr h
        | false => rw [e] at h; exact ih h
  exact .inr (key scope.names h)
theorem xF {scope : Scope} {env : PySem.Env} {y : Str} (h : scope.names.lookup y = some .local) : xX (relabel scope env) y := .inl (lookup_relabel_local h)
theorem Jo {scope : Scope} {env : PySem.Env} {y : Str} (h : scope.names.lookup y = some .globalImplicit) : (relabel scope env).names.lookup y = some .globalImplicit := by
  unfold relabel
  have key : ∀ (names : List (Str × NameKind)), names.lookup y = some .globalImplicit →
      (names.map fun (z : Str × NameKind) => match z with | (n, k) => if (k == NameKind.free && env.scope.kind == .function && env.kindOf n == some .cell) = true then (n, NameKind.cell) else (n, k)).lookup y = some .globalImplicit := by
    intro names
    induction names with
    | nil => intro h; cases h
    | cons z r ih =>
      obtain ⟨n, j⟩ := z
      intro h
      rw [List.lookup_cons] at h
      rw [List.map_cons, List.lookup_cons]
      by_cases hc : (j == NameKind.free && env.scope.kind == .function && env.kindOf n == some .cell) = true
      · simp only [hc, if_true]
        cases e : y == n with
        | true =>
          rw [e] at h
          have h : j = .globalImplicit := Option.some.inj h
          rw [h] at hc
          simp at hc
        | false => rw [e] at h; exact ih h
      · simp only [hc, Bool.false_eq_true, if_false]
        cases e : y == n with
        | true => rw [e] at h; exact h
        | false => rw [e] at h; exact ih h
  exact key scope.names h
noncomputable def qO (sc : Scope) (N : List Str) (scope : Scope) (x : Str) : Bool :=
  decide (scope.kind = .function) && (decide (scope.names.lookup x = some .local) || decide (scope.names.lookup x = some .cell)) && scope.names.all (fun y => !decide (y.2 = .local) || decide (scope.names.lookup y.1 = some .local)) &&
  decide (scope.names.filter (fun y => y.2 == .cell) = if scope.names.lookup x = some .cell then [(x, .cell)] else []) &&
  scope.names.all (fun y => !decide (y.2 = .free) || (decide (sc.names.lookup y.1 = some .cell) || decide (sc.names.lookup y.1 = some .free))) && N.all (fun y => !decide (scope.names.lookup y = some .local) || decide (y = x)) &&
  decide (scope.names.lookup ("" : Str) = Option.none) && decide ((x :: wW x N).Nodup)
theorem wx {scope sc : Scope} {N : List Str} {x : Str} (hs : X.env.scope = sc) (hN : X.N = N) (h : qO sc N scope x = true) : CompSc X scope x := by
  subst hs hN
  simp only [qO, Bool.and_eq_true, decide_eq_true_eq, List.all_eq_true, Bool.or_eq_true, Bool.not_eq_true', decide_eq_false_iff_not] at h
  obtain ⟨⟨⟨⟨⟨⟨⟨h1, h2⟩, h3⟩, h4⟩, h5⟩, h6⟩, h7⟩, h8⟩ := h
  exact ⟨h1, h2, fun y hy e => (h3 y hy).resolve_left fun z => z e, h4, fun y hy e => (h5 y hy).resolve_left fun z => z e, fun y hy e => (h6 y hy).resolve_left fun z => z e, h7, h8⟩
end
end L2.LW
set_option maxHeartbeats 4000000
namespace L2.LW
open PySem PySem.Spec PyProof.Rows
section
variable {Pg : Program} {w : World} {K : PySem.W.Frag} {mg : Str → Option Value} {base : Heap} {f : Addr} {fd : FuncData} {ps : List Str} {P : Nat → Option Fn} {fuel i n k : Nat}
theorem qP {io : List Nat} (h : ∀ ds, zn P fuel n i ds = Option.none) : FnOk Pg w K mg base yv k f fd ps (xa K (zn P fuel n) i io) := by
  have no : ∀ vs H Q E, ¬ xa K (zn P fuel n) i io vs H Q E := fun vs H Q E zz4 => by
    obtain ⟨W, ds, r, outs, _, _, e, _⟩ := zz4
    rw [h ds] at e; cases e
  exact ⟨fun vs H Q E z => absurd z (no vs H Q E), fun A outer s H args us vs Q E _ _ _ _ z => absurd z (no vs H Q E)⟩
theorem zfx {io : List Nat} : FnOk Pg w K mg base yv k f fd ps (xa K (zn P fuel 0) i io) := qP fun _ => rfl
theorem zh {io : List Nat} (h : P i = Option.none) : FnOk Pg w K mg base yv k f fd ps (xa K (zn P fuel (n + 1)) i io) := qP fun ds => by rw [zn, h]; rfl
theorem zfy {H : Hp} {a : Addr} {ns : List Int} {E : XK} (h : zQ P fuel n i [.lst (ns.map D.int)] = some (.val (.bl true))) (hS : SqL K H a (ns.map V.int)) : xa K (zn P fuel n) i [] [.ref a] H (fun v _ => v = .bl true) E := by
  refine ⟨fun _ => False, [.lst (ns.map D.int)], .val (.bl true), [], fun _ z => z.elim, (Reps.cons (.lst ?_ (.ints ns)) .nil).get', qA h, fun v H' _ _ r => ?_⟩
  · rcases hS with hS | hS
    · exact .inl ⟨fun z => z, hS⟩
    · exact .inr hS
  · cases r with
    | val r => cases r; rfl
end
end L2.LW
set_option maxHeartbeats 4000000
set_option maxHeartbeats 4000000
namespace L2.LW
open PySem PySem.Spec PyProof.Rows
inductive ArgOk (K : PySem.W.Frag) (ρ : LW.Env) (σ : St) (H H' : Hp) : AV → V → Prop where
  | e {d : D} {v : V} (h : ∀ W, Rep K W H' d v) : ArgOk K ρ σ H H' (.e d) v
  | l {ds : List D} {a : Addr} {xs : List V} (e : SqL K H' a xs ∧ Rd H' a (.lst xs) ∨ VH K a xs) (r : ∀ W, Reps K W H' ds xs) : ArgOk K ρ σ H H' (.l ds) (.ref a)
  | s {i : Nat} {x : SV} {d : D} {a : Addr} (h : ρ[i]? = some (some x)) (c : x.cell = some d) (k : jq d = true) (e : σ[i]? = some (some (.ref a))) : ArgOk K ρ σ H H' (.s i d) (.ref a)
  | n {t : Bool} {a : Addr} {o : HO} (h : H a = Option.none) (e : H' a = some o) (r : ∀ W, ORep K W H' (.dct t [] []) o) : ArgOk K ρ σ H H' (.n t) (.ref a)
theorem ArgOk.same {K : PySem.W.Frag} {ρ : LW.Env} {σ : St} {H H' H'' : Hp} {x : AV} {v : V} (h : ArgOk K ρ σ H H' x v) (s : Same H' H'') : ArgOk K ρ σ H H'' x v := by
  cases h with
  | e h => exact .e fun W => (h W).ext (.same s)
  | l e r =>
    refine .l ?_ fun W => (r W).ext (.same s)
    rcases e with ⟨e1, e2⟩ | e
    · refine .inl ⟨s.seq e1, ?_⟩
      rcases e2 with e2 | ⟨o, e2⟩
      · exact .inl (s _ _ e2)
      · exact .inr ⟨o, s _ _ e2⟩
    · exact .inr e
  | s h c k e => exact .s h c k e
  | n h e r => exact .n h (s _ _ e) fun W => (r W).ext (.same s)
theorem ArgOk.back {K : PySem.W.Frag} {ρ : LW.Env} {σ : St} {H H' H'' : Hp} {x : AV} {v : V} (h : ArgOk K ρ σ H' H'' x v) (s : Same H H') : ArgOk K ρ σ H H'' x v := by
  cases h with
  | e h => exact .e h
  | l e r => exact .l e r
  | s h c k e => exact .s h c k e
  | n h e r => exact .n (s.free h) e r
inductive OutsX (K : PySem.W.Frag) (W : Addr → Prop) (H : Hp) : List AV → List V → List D → Prop where
  | nil : OutsX K W H [] [] []
  | e {d : D} {v : V} {xs : List AV} {vs : List V} {os : List D} (t : OutsX K W H xs vs os) : OutsX K W H (.e d :: xs) (v :: vs) os
  | l {d : List D} {v : V} {xs : List AV} {vs : List V} {os : List D} (t : OutsX K W H xs vs os) : OutsX K W H (.l d :: xs) (v :: vs) os
  | s {i : Nat} {d : D} {a : Addr} {o : HO} {d' : D} {xs : List AV} {vs : List V} {os : List D} (e : H a = some o) (r : ORep K W H d' o) (t : OutsX K W H xs vs os) : OutsX K W H (.s i d :: xs) (.ref a :: vs) (d' :: os)
  | n {b : Bool} {v : V} {d' : D} {xs : List AV} {vs : List V} {os : List D} (t : OutsX K W H xs vs os) : OutsX K W H (.n b :: xs) (v :: vs) (d' :: os)
section
variable {X : Cx} {fn : Nat → List D → Option SV} {fa : Nat → List D → Option Ans} {fuel : Nat} {a b c e : Expr} {ca cb cc ce : E} {es : List Expr} {cs : Es} {ma : MA} {m : M} {pos p : Pos} {x : Str} {st : Stmt} {sts sts' : List Stmt} {s : S} {ss s1 s2 : Ss}
theorem OutsX.plain {K : PySem.W.Frag} {W W' : Addr → Prop} {H : Hp} {xs : List AV} {vs : List V} {os : List D} (h : OutsX K W H xs vs os) (p : os.all xM = true) : OutsX K W' H xs vs os := by
  induction h with
  | nil => exact .nil
  | e _ ih => exact .e (ih p)
  | l _ ih => exact .l (ih p)
  | s e r _ ih =>
    simp only [List.all_cons, Bool.and_eq_true] at p
    exact .s e (r.plain p.1) (ih p.2)
  | n _ ih =>
    simp only [List.all_cons, Bool.and_eq_true] at p
    exact .n (ih p.2)
theorem Res.fine {K : PySem.W.Frag} {W W' : Addr → Prop} {H H' : Hp} {r : SV} {v : V} (h : Res K W' H H' r v) (p : r.fine = true) : Res K W H H' r v := by
  cases h with
  | val h => exact .val (h.plain p)
  | new h e r => exact .new h e (r.plain p)
  | see h e r => cases p
theorem SPost.wf' {K : PySem.W.Frag} {W W' : Addr → Prop} {ρ ρ' : LW.Env} {σ σ' : St} {H H' : Hp} (p : SPost K W ρ σ H W' ρ' σ' H') : Wf W' H' := p.r.wf
end
end L2.LW
set_option maxHeartbeats 4000000
namespace L2.LW
open PySem PySem.Spec PyProof.Rows
section
variable {X : Cx} {fn : Nat → List D → Option SV} {fa : Nat → List D → Option Ans} {fuel : Nat} {st : Stmt} {s : S}
theorem zfz (g : Bool) (src : Es) (cond elt : E) : ∀ ρ, zx fn (.comp g src cond elt) ρ = (zf fn (.comp g src cond elt) ρ).bind yc := fun ρ => by
  rw [qc, VF]
  cases zN fn src ρ with
  | none => rfl
  | some rs =>
    simp only [Option.bind_some]
    cases zU g rs with
    | none => rfl
    | some ds =>
      simp only [Option.bind_some]
      split
      · cases yH (fun d => zx fn cond (some (.val d) :: ρ)) (fun d => zf fn elt (some (.val d) :: ρ)) ds <;> rfl
      · rfl
theorem zfA {env : PySem.Env} {a b c d} : ∀ whole, PySem.isTrue (.ListComp a b c d) env whole = (do let v ← whole; standAt (Expr.ListComp a b c d).pos; holding [v] (truthy v)) := fun _ => rfl
theorem qQ : ∀ (r : List Int) (n : Int), (∀ x ∈ n :: r, x ≤ r.foldl max n) ∧ r.foldl max n ∈ n :: r
  | [], n => by simp
  | x :: r, n => by
    obtain ⟨h1, h2⟩ := qQ r (max n x)
    rw [List.foldl_cons]
    refine ⟨fun y hy => ?_, ?_⟩
    · have h0 := h1 (max n x) List.mem_cons_self
      rcases List.mem_cons.mp hy with rfl | hy
      · omega
      · rcases List.mem_cons.mp hy with rfl | hy
        · omega
        · exact h1 y (List.mem_cons_of_mem _ hy)
    · rcases List.mem_cons.mp h2 with e | e
      · rw [e]
        rcases Int.le_total n x with q | q
        · rw [Int.max_eq_right q]; simp
        · rw [Int.max_eq_left q]; simp
      · exact List.mem_cons_of_mem _ (List.mem_cons_of_mem _ e)
theorem zfB {its : List Value} {ns : List Int} (hi : IntsAre its ns) : ∃ ps : List (Int × Tok), its = ps.map (fun p => Value.int p.1 p.2) ∧ ns = ps.map (·.1) := by
  induction hi with
  | nil => exact ⟨[], rfl, rfl⟩
  | cons n t h ih =>
    obtain ⟨ps, e1, e2⟩ := ih
    exact ⟨(n, t) :: ps, by rw [e1]; rfl, by rw [e2]; rfl⟩
theorem zfC {its : List Value} {ns : List Int} (hi : IntsAre its ns) : ∃ xs : Array (Int × Tok), its.toArray = intItems xs ∧ xs.size = ns.length ∧ ∀ i, (h : i < ns.length) → numAt xs i = ns[i] := by
  obtain ⟨ps, rfl, rfl⟩ := zfB hi
  refine ⟨ps.toArray, by simp [intItems], by simp, fun i h => ?_⟩
  have h' : i < ps.length := by simpa using h
  simp [numAt, h']
theorem Xh (hc : X.calm = true) : CallR X (.builtin "max") (VR X.K (zb .maxL)) := by
  rintro pins s σ H xs us Q I rv ⟨W, ds, r, wf, hs, hf, q⟩
  replace hf : YM ds = some r := hf
  unfold YM at hf
  split at hf
  · rename_i l
    rw [jo1] at hf
    obtain ⟨ns, e1, hf⟩ := hf
    cases ns with
    | nil => cases hf
    | cons n ns =>
      cases hf
      cases hs with
      | cons h1 t =>
        cases t
        obtain ⟨p, ys, rfl, hp, rp⟩ := h1.lst
        have ey := rp.ofInts e1
        subst ey
        obtain ⟨u, rfl, ru⟩ := wo rv
        cases ru
        obtain ⟨its, rv', pl, hz⟩ := I.list hp
        obtain ⟨xs, x1, x2, x3⟩ := zfC (jX rv')
        have hpl := pl.isList
        rw [x1] at hpl
        refine max_intList (I.ok.hd hc) hpl (by rw [x2]; simp) fun v h' tk hv hk => ?_
        obtain ⟨t, rfl⟩ := intItems_at hv
        obtain ⟨g1, g2⟩ := argBest_gt (numAt xs) (xs.size - 1)
        have hlen : xs.size - 1 = ns.length := by rw [x2]; simp
        rw [hlen] at g1 g2 ⊢
        generalize argBest (fun i j => decide (numAt xs i > numAt xs j)) ns.length = b at g1 g2 ⊢
        have eb : numAt xs b = ns.foldl max n := by
          obtain ⟨m1, m2⟩ := qQ ns n
          have hb : b < (n :: ns).length := by simp; omega
          obtain ⟨j, hj, ej⟩ := List.getElem_of_mem m2
          have q1 := m1 _ (List.getElem_mem hb)
          have q2 := g2 j (by simp at hj; omega)
          rw [x3 j hj, ej] at q2
          rw [x3 b hb] at q2 ⊢
          omega
        rw [eb]
        exact ⟨.int _, H, I.kept (t' := tk) hk, ⟨_, rfl⟩, q _ H (.refl H) (.val (.int _))⟩
  · cases hf
theorem zfD : CallR X (.type "int") (VR X.K (zb .intOf)) := by
  rintro pins s σ H xs us Q I rv ⟨W, ds, r, wf, hs, hf, q⟩
  replace hf : VA ds = some r := hf
  unfold VA at hf
  split at hf
  · cases hf
    cases hs with
    | cons h1 t =>
      cases t
      cases h1.int
      exact ki pins s σ H _ us Q I rv (.inl ⟨_, rfl, q _ H (.refl H) (.val (.int _))⟩)
  · cases hf
    cases hs with
    | cons h1 t =>
      cases t
      cases h1.bl
      exact ki pins s σ H _ us Q I rv (.inr ⟨_, rfl, q _ H (.refl H) (.val (.int _))⟩)
  · cases hf
end
end L2.LW
set_option maxHeartbeats 4000000
namespace L2.LW
open PySem PySem.W PyProof.Rows
section
variable {n : Nat} {r : Nat → Int} {cmp : Nat → Nat → (Bool → Shared → Prop) → Shared → Prop} {I : Shared → Prop}
noncomputable def kk (r : Nat → Int) (p : Array Nat) (i : Nat) : Int := r (p.getD i 0)
structure Pm (n : Nat) (r : Nat → Int) (p : Array Nat) : Prop where
  perm : p.Perm (List.range n).toArray
  size : p.size = n
  lt : ∀ i, i < n → p.getD i 0 < n
  inj : ∀ i j, i < n → j < n → i ≠ j → kk r p i ≠ kk r p j
theorem Pm.of {p : Array Nat} (hr : ∀ i j, i < n → j < n → i ≠ j → r i ≠ r j) (h : p.Perm (List.range n).toArray) : Pm n r p := by
  have hs : p.size = n := by have := h.size_eq; simpa using this
  have hl : p.toList.Perm (List.range n) := Array.perm_iff_toList_perm.mp h
  have hlt : ∀ i, i < n → p.getD i 0 < n := fun i hi => by
    have hi' : i < p.size := by omega
    have : p[i] ∈ p.toList := by simp
    have := hl.mem_iff.mp this
    rw [List.mem_range] at this
    simpa [Array.getD, hi'] using this
  have hnd : p.toList.Nodup := hl.nodup_iff.mpr List.nodup_range
  refine ⟨h, hs, hlt, fun i j hi hj ne => hr _ _ (hlt i hi) (hlt j hj) fun e => ne ?_⟩
  have hi' : i < p.size := by omega
  have hj' : j < p.size := by omega
  simp only [Array.getD, hi', hj', dif_pos] at e
  have e' : p.toList[i]'(by simpa using hi') = p.toList[j]'(by simpa using hj') := by simpa using e
  exact (List.getElem_inj hnd).mp e'
noncomputable def Up (r : Nat → Int) (p : Array Nat) (k : Nat) : Prop := ∀ i j, i < j → j < k → kk r p i < kk r p j
noncomputable def Dn (r : Nat → Int) (p : Array Nat) (k : Nat) : Prop := ∀ i j, i < j → j < k → kk r p j < kk r p i
theorem Up.one {p : Array Nat} {k : Nat} (h : k ≤ 1) : Up r p k := fun i j h1 h2 => by omega
theorem Dn.one {p : Array Nat} {k : Nat} (h : k ≤ 1) : Dn r p k := fun i j h1 h2 => by omega
theorem Up.next {p : Array Nat} {k : Nat} (h : Up r p k) (hk : 1 ≤ k) (e : kk r p (k - 1) < kk r p k) : Up r p (k + 1) := fun i j h1 h2 => by
  by_cases hj : j = k
  · subst hj
    by_cases hi : i = j - 1
    · rw [hi]; exact e
    · exact Int.lt_trans (h i (j - 1) (by omega) (by omega)) e
  · exact h i j h1 (by omega)
theorem Dn.next {p : Array Nat} {k : Nat} (h : Dn r p k) (hk : 1 ≤ k) (e : kk r p k < kk r p (k - 1)) : Dn r p (k + 1) := fun i j h1 h2 => by
  by_cases hj : j = k
  · subst hj
    by_cases hi : i = j - 1
    · rw [hi]; exact e
    · exact Int.lt_trans e (h i (j - 1) (by omega) (by omega))
  · exact h i j h1 (by omega)
variable (hc : ∀ i j C s, i < n → j < n → I s → (∀ s', I s' → C (decide (r i < r j)) s') → cmp i j C s)
include hc
omit hc in
omit hc in
omit hc in
omit hc in
end
end L2.LW
set_option maxHeartbeats 4000000
set_option maxHeartbeats 4000000
set_option maxHeartbeats 4000000
namespace L2.LW
open PySem PySem.Spec PySem.W PySem.Calls PyProof.Rows
noncomputable def RawD (h : Heap) (d : Addr) (tb : Array DictEntry) (ep : Nat) : Prop := ∃ o, h.get? d = some o ∧ o.ExactDict ∧ o.data = .dict tb ep
theorem RawD.at {h h2 : Heap} {d : Addr} {tb : Array DictEntry} {ep : Nat} (x : RawD h d tb ep) (e : ∀ o, h.get? d = some o → h2.get? d = some o) : RawD h2 d tb ep := let ⟨o, ho, r⟩ := x; ⟨o, e _ ho, r⟩
theorem RawD.lt {h : Heap} {d : Addr} {tb : Array DictEntry} {ep : Nat} (x : RawD h d tb ep) : d < h.objs.size := let ⟨_, ho, _⟩ := x; Heap.lt_size ho
end L2.LW
set_option maxHeartbeats 4000000
set_option maxHeartbeats 4000000
set_option maxHeartbeats 4000000
namespace L2.LW
open PySem PySem.Spec PySem.W PySem.Calls PyProof.Rows
noncomputable def jP (i : Nat) : Int := reduceHash (Builtin.Tuple.tupleHashOf [hashInt ((i / 8 : Nat) : Int), hashInt ((i % 8 : Nat) : Int)])
end L2.LW
set_option maxHeartbeats 4000000
set_option maxHeartbeats 4000000
set_option maxHeartbeats 4000000
namespace L2.LW
open PySem PySem.Spec PySem.W PySem.Calls PyProof.Rows
section
variable {X : Cx} {fn : Nat → List D → Option SV}
theorem zfE (xs : List V) (k : Int) (hk : 0 ≤ k) : vk xs (some k) Option.none = xs.drop k.toNat := by
  obtain ⟨n, rfl⟩ := Int.eq_ofNat_of_zero_le hk
  unfold vk
  rw [HT.sIx_none, HT.sIx_nat, Int.toNat_natCast]
  rcases Nat.le_total n xs.length with h | h
  · rw [Nat.min_eq_left h, List.take_of_length_le]; rw [List.length_drop]; omega
  · rw [Nat.min_eq_right h, Nat.sub_self, List.take_zero, List.drop_of_length_le h]
theorem qR : OpR X (compareOp .Eq) (yj X.K (zb .eqS)) := by
  rintro pins s σ H x y v u Q I rx ry ⟨W, ds, r, wf, hs, hf, q⟩
  obtain ⟨d, e, rfl, h1, h2⟩ := yZ hs
  replace hf : jo [d, e] = some r := hf
  unfold jo at hf
  split at hf
  case h_2 => cases hf
  rename_i a b z
  cases z
  cases hf
  cases h1.str; cases h2.str
  have e : decide (V.str a = V.str b) = decide (a = b) := by simp
  exact zcL pins s σ H _ _ v u Q I rx ry ⟨rfl, by rw [e]; exact q _ H (.refl H) (.val (.bl _))⟩
theorem Jp : OpR X (compareOp .NotEq) (yj X.K (zb .neS)) := by
  rintro pins s σ H x y v u Q I rx ry ⟨W, ds, r, wf, hs, hf, q⟩
  obtain ⟨d, e, rfl, h1, h2⟩ := yZ hs
  replace hf : YK [d, e] = some r := hf
  unfold YK at hf
  split at hf
  case h_2 => cases hf
  rename_i a b z
  cases z
  cases hf
  cases h1.str; cases h2.str
  have e : decide (V.str a = V.str b) = decide (a = b) := by simp
  exact zcM pins s σ H _ _ v u Q I rx ry ⟨rfl, by rw [e]; exact q _ H (.refl H) (.val (.bl _))⟩
end
end L2.LW
set_option maxHeartbeats 4000000
namespace L2.LW
open PySem PySem.Spec PySem.W PySem.Calls PyProof.Rows
noncomputable def zfF (l : List PySem.Env) (g : Heap) (H : Hp) (e : Addr) (c : Value) (h : Heap) : Prop :=
  ∃ B t, Heap.FlyingW B l e c (.ref t) h ∧ (∀ b o, ((∃ o0, g.get? b = some o0) ∨ H b ≠ Option.none) → b ∉ zM l → h.get? b = some o → B.get? b = some o) ∧ H e = Option.none
noncomputable def yE (P : Program) (w : World) : xA := fun outer H s E e s' =>
  ∃ a c H', e = .ref a ∧ s'.os = s.os ∧ AllBare s'.gens ∧ Un (zM outer) [] H H' s.heap s'.heap ∧ HOk P w H' s'.heap ∧ zfF outer s.heap H' a c s'.heap ∧ E c Option.none H'
section
variable {P : Program} {w : World} {l : List PySem.Env} {H H' : Hp} {g h h' B : Heap} {e : Addr} {c t : Value}
theorem zfG (ok : HOk P w H' h) (nf : ∀ b ∈ zM l, H' b = Option.none) (full : ∀ b o, H' b ≠ Option.none → b ∉ zM l → h.get? b = some o → h'.get? b = some o) : HOk P w H' h' := fun a o q =>
  (ok a o q).stay (fun b u z q2 => by
    have hb : H' b ≠ Option.none := by
      rcases z with rfl | z
      · rw [q]; exact fun z => nomatch z
      · rw [z]; exact fun z => nomatch z
    exact full b u hb (fun m => hb (nf b m)) q2) (fun _ z => z) fun _ _ z => z
theorem zfH (u : Un (zM l) [] H H' g h) (full : ∀ b o, (∃ o0, g.get? b = some o0) → b ∉ zM l → h.get? b = some o → h'.get? b = some o)
    (sl : ∀ b o, b ∈ zM l → h.get? b = some o → ∃ s, h'.get? b = some { o with slots := s }) : Un (zM l) [] H H' g h' where
  keep := fun b o q n hb hx => full b o ⟨o, q⟩ hb (u.keep b o q n hb hx)
  slot := fun b o q n hb hx => by
    obtain ⟨s1, e1⟩ := u.slot b o q n hb hx
    obtain ⟨s2, e2⟩ := sl b _ hb e1
    exact ⟨s2, e2⟩
  free := u.free
  there := fun b o q hx => by
    obtain ⟨o1, e1⟩ := u.there b o q hx
    by_cases hb : b ∈ zM l
    · obtain ⟨s2, e2⟩ := sl b _ hb e1
      exact ⟨_, e2⟩
    · exact ⟨_, full b o1 ⟨o, q⟩ hb e1⟩
  tups := u.tups
  frzs := u.frzs
  tbls := u.tbls
theorem zfI (f : h.FunFrames B l) (k : h.UpToSlots h') : ∀ b o, b ∈ zM l → h.get? b = some o → ∃ s, h'.get? b = some { o with slots := s } := fun b o hb q => by
  obtain ⟨_, o1, e1, d1⟩ := f.mem hb
  rw [q] at e1
  cases e1
  exact k b o q d1
theorem obj_there {a : Addr} {o : HO} (x : ObjOk P w H h a o) : ∃ ob, h.get? a = some ob := by
  cases o with
  | lst xs => obtain ⟨_, _, _, _, e⟩ := x; exact ⟨_, e⟩
  | tup xs => obtain ⟨_, _, _, _, e, _⟩ := x; exact ⟨_, e⟩
  | dK kvs => obtain ⟨_, _, _, _, o, _, _, e, _⟩ := x; exact ⟨_, e⟩
  | dT kvs => obtain ⟨_, _, _, _, o, _, _, e, _⟩ := x; exact ⟨_, e⟩
  | set S n => obtain ⟨o, _, _, _, e, _⟩ := x; exact ⟨_, e⟩
  | ins C dx fs => obtain ⟨_, _, _, e, _⟩ := x; exact ⟨_, e⟩
  | own y => exact x
  | xd fs => obtain ⟨_, ⟨_, _, _, e, _⟩, _⟩ := x; exact ⟨_, e⟩
  | rng lo hi => obtain ⟨_, _, _, e⟩ := x; exact ⟨_, e⟩
  | frz ob u => obtain ⟨e, _⟩ := x; exact ⟨_, e⟩
  | tbl ps => exact ⟨_, show h.get? a = some _ from x⟩
  | met f y => exact ⟨_, show h.get? a = some _ from x⟩
  | ext φ => obtain ⟨_, e, _⟩ := x; exact e
end
section
variable {X : Cx} {pins : List (Addr × Obj)} {σ : St} {H : Hp} {s s' : Shared}
theorem Inv.flew {H' : Hp} {h' B : Heap} (I : Inv X pins σ H s) (os : s'.os = s.os) (bare : AllBare s'.gens) (u : Un (zM X.stack) [] H H' s.heap s'.heap) (ok : HOk X.prog X.w H' s'.heap)
    (fl : s'.heap.FunFrames B X.stack) (full : ∀ b o, ((∃ o0, s.heap.get? b = some o0) ∨ H' b ≠ Option.none) → b ∉ zM X.stack → s'.heap.get? b = some o → B.get? b = some o) (st : B.StaysIn h') (k : s'.heap.UpToSlots h') :
    Inv X pins σ H' { s' with heap := h' } ∧ Un (zM X.stack) [] H H' s.heap h' ∧ HOk X.prog X.w H' h' := by
  have nf : ∀ b ∈ zM X.stack, H' b = Option.none := fun b hb => by
    obtain ⟨_, o, ho, _⟩ := I.stack.mem hb
    exact u.free b o ho (I.stkFree b hb) (by simp)
  have u' : Un (zM X.stack) [] H H' s.heap h' := zfH u (fun b o q nb e => st b o (full b o (.inl q) nb e)) (zfI fl k)
  have ok' : HOk X.prog X.w H' h' := zfG ok nf fun b o q nb e => st b o (full b o (.inr q) nb e)
  exact ⟨I.call' (s' := { s' with heap := h' }) os u' ok' bare (fun b z => absurd z (by simp)), u', ok'⟩
end
section
variable {P : Program} {w : World} {K : PySem.W.Frag} {mg : Str → Option Value} {base : Heap} {N : List Str} {qual : Str} {scope : Scope} {f : Addr} {cd : Value} {A : Around} {outer : List PySem.Env} {s : Shared} {H : Hp} {E : XK}
theorem zfJ {pins : List (Addr × Obj)} {σ : St} {H1 H' : Hp} {s1 s' : Shared} {h' B : Heap} {a : Addr} {c : Value} {t : Addr} (I : Inv (xg (yE P w) P w K mg base N qual scope f cd A outer s H E) pins σ H1 s1)
    (os : s'.os = s1.os) (bare : AllBare s'.gens) (u : Un (zM (envOfC qual scope s.heap.objs.size f cd :: outer)) [] H1 H' s1.heap s'.heap) (ok : HOk P w H' s'.heap) (fl : s'.heap.FunFrames B (envOfC qual scope s.heap.objs.size f cd :: outer))
    (full : ∀ b o, ((∃ o0, s1.heap.get? b = some o0) ∨ H' b ≠ Option.none) → b ∉ zM (envOfC qual scope s.heap.objs.size f cd :: outer) → s'.heap.get? b = some o → B.get? b = some o)
    (fl' : Heap.FlyingW B outer a c (.ref t) h') (k : s'.heap.UpToSlots h') (he : H' a = Option.none) (q : E c Option.none H') : yE P w outer H s E (.ref a) { s' with heap := h' } := by
  obtain ⟨J, u', ok'⟩ := Inv.flew (h' := h') I os bare u ok fl full fl'.1 k
  have nf : ∀ b, H' b ≠ Option.none → b ∉ zM (envOfC qual scope s.heap.objs.size f cd :: outer) := fun b hb hm => by
    obtain ⟨_, o, ho, _⟩ := I.stack.mem hm
    exact hb (u.free b o ho (I.stkFree b hm) (by simp))
  refine ⟨a, c, H', rfl, J.os, J.bare, J.base, ok', ⟨B, t, fl', fun b o hb nb e => ?_, he⟩, q⟩
  have fin : ∀ o2, s'.heap.get? b = some o2 → b ∉ zM (envOfC qual scope s.heap.objs.size f cd :: outer) → ((∃ o0, s1.heap.get? b = some o0) ∨ H' b ≠ Option.none) → B.get? b = some o := fun o2 e2 n2 z => by
    have e3 := full b o2 z n2 e2
    have e4 := fl'.1 b o2 e3
    have e4 : h'.get? b = some o2 := e4
    have e5 : h'.get? b = some o := e
    rw [e4] at e5
    cases e5
    exact e3
  rcases hb with ⟨o0, e0⟩ | hb
  · obtain ⟨o1, e1⟩ := I.base.there b o0 e0 (by simp [xg])
    obtain ⟨o2, e2⟩ := u.there b o1 e1 (by simp)
    refine fin o2 e2 (fun hm => ?_) (.inl ⟨o1, e1⟩)
    rcases List.mem_cons.mp (I.stkSub b hm) with z | z
    · have l1 : b < s.heap.objs.size := Heap.lt_size e0
      have l2 : s.heap.objs.size ≤ b := by rw [z]; exact I.ok.above
      exact absurd l1 (Nat.not_lt.mpr l2)
    · exact nb z
  · cases z : H' b with
    | none => exact absurd z hb
    | some v =>
      obtain ⟨o2, e2⟩ := obj_there (ok b v z)
      exact fin o2 e2 (nf b hb) (.inr hb)
theorem qS {pins : List (Addr × Obj)} {σ : St} {H1 : Hp} {s1 : Shared} {h1 : Heap} {a : Addr} {c : Value} {args : List Value} (I : Inv (xg (yE P w) P w K mg base N qual scope f cd A outer s H E) pins σ H1 s1)
    (m : Heap.MadeExcOf s1.heap h1 a c args) (q : E c Option.none H1) : (xg (yE P w) P w K mg base N qual scope f cd A outer s H E).xe (.ref a) { s1 with heap := h1 } := by
  have hin : ∀ env ∈ (envOfC qual scope s.heap.objs.size f cd :: outer), ∀ b, env.frame = some b → b ∈ (envOfC qual scope s.heap.objs.size f cd :: outer).filterMap (·.frame) := fun env he b hb => List.mem_filterMap.mpr ⟨env, he, hb⟩
  have he : H1 a = Option.none := by
    cases z : H1 a with
    | none => rfl
    | some v =>
      obtain ⟨o2, e2⟩ := obj_there (I.hok a v z)
      rw [m.new] at e2
      cases e2
  have ff := funFrames_hide (as := zM (envOfC qual scope s.heap.objs.size f cd :: outer)) I.stack hin
  refine wpAny_leaves_madeW (h := s1.heap) (base := hideAll s1.heap (zM (envOfC qual scope s.heap.objs.size f cd :: outer))) I.ok.frames rfl (fun b o e => of_hideAll _ e) ff m fun h' t fl' tp nt k => ?_
  refine zfJ (s' := { s1 with heap := h1 }) I rfl I.bare (Un.kept m.keeps) (I.hok.kept m.keeps) (ff.of_keeps fun b o e _ => ⟨o, m.keeps b o e, rfl⟩) (fun b o z nb e => ?_) fl' k he q
  have e1 : s1.heap.get? b = some o := by
    have old : ∃ o1, s1.heap.get? b = some o1 := by
      rcases z with z | z
      · exact z
      · cases z2 : H1 b with
        | none => exact absurd z2 z
        | some v => exact obj_there (I.hok b v z2)
    obtain ⟨o1, e1⟩ := old
    have e2 : h1.get? b = some o1 := m.keeps b o1 e1
    have e3 : h1.get? b = some o := e
    rw [e2] at e3
    cases e3
    exact e1
  exact hideAll_get _ e1 nb
end
end L2.LW
set_option maxHeartbeats 4000000
namespace L2.LW
open PySem PySem.Spec PySem.W PySem.Calls PyProof.Rows
noncomputable def Jq : List Value := [.type "ValueError", .type "Exception", .type "BaseException", .type "object"]
noncomputable abbrev Zy (K : PySem.W.Frag) (C : Addr) : Prop := excIn K C Jq "ValueError.__new__" = true
theorem zfK {K : PySem.W.Frag} {h : Heap} {C : Addr} (X : K.In h) (q : Zy K C) : ∃ bm N nm qn bs hdct sn sub ab col dd k0 k1 k2 k3 k5 mN,
    h.get? C = some (excClassObj nm qn C N bs bm hdct sn sub ab col dd k0 k1 k2 k3 k5 "ValueError.__new__") ∧ h.Ns N mN ∧ mN "__init__" = Option.none ∧ OwnTail h Jq bm := by
  have q' : excIn K C Jq "ValueError.__new__" = true := q
  unfold excIn at q'
  split at q'
  case h_2 => cases q'
  rename_i dd cd sl ho
  split at q'
  case h_2 => cases q'
  rename_i C2 bm j0 j1 j2 j3 n j5 hm hs
  simp only [Bool.and_eq_true, beq_iff_eq, Bool.not_eq_true'] at q'
  obtain ⟨⟨⟨⟨⟨rfl, rfl⟩, hdel⟩, ht⟩, hok⟩, hni⟩ := q'
  rcases cd with ⟨nm, bs, mro, ns, qn, hd, sn, sub, ab, col, ze5⟩
  dsimp only at hm hdel hok hni
  subst hm hdel
  have es : sl = #[j0, j1, j2, j3, some (.builtin "ValueError.__new__"), j5] := by
    cases sl
    simpa using hs
  subst es
  exact ⟨_, _, _, _, _, _, _, _, _, _, _, _, _, _, _, _, _, X _ _ ho, .of_isNs (isNs_of_in X hok), nsMap_none_of_in X hok hni, tail_of_in X ht⟩
noncomputable def qT (X : Cx) (E : XK) : Prop := ∀ (pins : List (Addr × Obj)) (σ : St) (H : Hp) (s : Shared) (h : Heap) (a : Addr) (c : Value) (args : List Value), Inv X pins σ H s → Heap.MadeExcOf s.heap h a c args → E c Option.none H → X.xe (.ref a) { s with heap := h }
section
variable {X : Cx} {E : XK} {x : Str} {C : Addr} {e : Expr} {te : TE} {np cpos pos : Pos}
noncomputable def zfL (E : XK) (C : Addr) (te : TE) : TS := fun _ σ H => te σ H fun _ H1 => E (.ref C) Option.none H1
theorem zfM (hc : X.calm = true) (hM : qT X E) (hq : Zy X.K C) (hg : Gl X x) (hm : X.mg x = some (.ref C)) (he : PE X e te) (hdb : (x == ("__debug__" : Str)) = false := by decide)
    (hst : starEach [e] X.env = (false, eval e X.env) :: starEach [] X.env := by rfl) : PS X (.Raise (some (.Call (.Name x np) [e] [] cpos)) Option.none pos) (zfL E C te) := by
  intro pins s σ H D I h
  obtain ⟨bm, N, nm, qn, bs, hdct, sn, sub, ab, col, dd, k0, k1, k2, k3, k5, mN, hC, hN, hni, T⟩ := zfK I.mod.kin hq
  refine wpAny_Raise_call_subT (C := C) (nm := nm) (q := qn) (N := N) (bs := bs) (bm := bm) (hdct := hdct) (sn := sn) (sub := sub) (ab := ab) (col := col) (dd := dd) (k0 := k0) (k1 := k1) (k2 := k2) (k3 := k3) (k5 := k5)
    PySem.F.excBase_ValueError (mN := mN) (T.hasType PySem.F.excBase_ValueError.hasBase) (I.ok.hd hc) (by rw [hst]; rfl) hni (jQ I hg hm ⟨rfl, ?_⟩ hdb)
  rw [hst]
  refine evalArgs_plain (spliced_cons (zq (he pins s σ H _ I h) fun u s1 ⟨v, H1, I1, r1, q1⟩ => spliced_nil ⟨rfl, by size_fits, ?_, ?_, ?_, fun h' a m => ?_⟩))
  · exact I1.bk _ _ hC
  · exact hN.keeps I1.bk
  · exact T.keeps I1.bk
  · exact hM pins σ H1 s1 h' a _ _ I1 m q1
end
end L2.LW
set_option maxHeartbeats 4000000
namespace L2.LW
open PySem PySem.Spec PySem.W PySem.Calls PyProof.Rows
noncomputable def FlXOk (K : PySem.W.Frag) (cl : Nat → Value) (E : XK) (W : Addr → Prop) (ρ : LW.Env) (σ : St) (W' : Addr → Prop) (ρ' : LW.Env) (σ' : St) (H' : Hp) (D : Ends) : FlX → Prop
  | .fl f => FlOk K W ρ σ W' ρ' σ' H' D f
  | .ex c => E (cl c) Option.none H'
noncomputable def tX (K : PySem.W.Frag) (cl : Nat → Value) (E : XK) (ex : LW.Env → Option (FlX × LW.Env)) : TS := fun D σ H => ∃ W ρ x, R K W ρ σ H ∧ ex ρ = some x ∧ ∀ W' σ' H', SPost K W ρ σ H W' x.2 σ' H' → FlXOk K cl E W ρ σ W' x.2 σ' H' D x.1
theorem FlXOk.back {K : PySem.W.Frag} {cl : Nat → Value} {E : XK} {W W1 W2 : Addr → Prop} {ρ ρ1 ρ2 : LW.Env} {σ σ1 σ2 : St} {H H1 H2 : Hp} {D : Ends} {fl : FlX} (p : SPost K W ρ σ H W1 ρ1 σ1 H1) (h : FlXOk K cl E W ρ σ W2 ρ2 σ2 H2 D fl) : FlXOk K cl E W1 ρ1 σ1 W2 ρ2 σ2 H2 D fl := by
  cases fl with
  | fl f => exact FlOk.back (ρ2 := ρ2) p h
  | ex c => exact h
structure IX (X : Cx) (cl : Nat → Value) (E : XK) (ex : LW.Env → Option (FlX × LW.Env)) (st : Stmt) : Prop where
  h : PS X st (tX X.K cl E ex)
structure IXs (X : Cx) (cl : Nat → Value) (E : XK) (ex : LW.Env → Option (FlX × LW.Env)) (st : List Stmt) : Prop where
  h : PSs X st (tX X.K cl E ex)
noncomputable def wF (K : PySem.W.Frag) (cl : Nat → Value) (fa : Nat → List D → Option Ans) (i : Nat) : Sp := fun vs H Q E => ∃ W ds, Wf W H ∧ Reps K W H ds vs ∧
  ((∃ r, fa i ds = some (.ok r []) ∧ ∀ v H', Same H H' → Res K W H H' r v → Q v H') ∨ ∃ c, fa i ds = some (.ex c) ∧ ∀ H', Same H H' → E (cl c) Option.none H')
section
variable {X : Cx} {cl : Nat → Value} {E : XK} {fa : Nat → List D → Option Ans} {fuel : Nat} {st : Stmt} {sts sts' : List Stmt} {s : S} {t : T} {ts t1 t2 : Ts} {e c : Expr} {es : List Expr} {cs : Es} {cc : LW.E} {x y : Str} {p pos : Pos}
theorem wX : IXs X cl E (zS fa fuel .nil) [] := .mk <| Yk.imp fun D σ H zz3 => by
  obtain ⟨W, ρ, x, hR, hx, q⟩ := zz3
  simp only [zS] at hx; cases hx; exact q W σ H (.same hR (.refl H))
theorem wa (h1 : IX X cl E (zY fa fuel t) st) (h2 : IXs X cl E (zS fa fuel ts) sts) : IXs X cl E (zS fa fuel (.cons t ts)) (st :: sts) :=
  .mk <| (Ym h1.h h2.h).imp fun D σ H zz3 => by
    obtain ⟨W, ρ, x, hR, hx, q⟩ := zz3
    simp only [zS, jo1] at hx
    obtain ⟨⟨fl, ρ1⟩, e1, e2⟩ := hx
    refine ⟨W, ρ, (fl, ρ1), hR, e1, fun W1 σ1 H1 p1 => ?_⟩
    cases fl with
    | ex c => cases e2; exact q W1 σ1 H1 p1
    | fl f =>
      cases f with
      | nx => exact ⟨W1, ρ1, x, p1.r, e2, fun W2 σ2 H2 p2 => FlXOk.back p1 (q W2 σ2 H2 (p1.trans p2 hR))⟩
      | br => cases e2; exact q W1 σ1 H1 p1
      | ct => cases e2; exact q W1 σ1 H1 p1
      | rt r => cases e2; exact q W1 σ1 H1 p1
theorem Xi (h : IS X (zH fa fuel s) st) : IX X cl E (zY fa fuel (.pl s)) st := .mk <| h.h.imp fun D σ H zz3 => by
  obtain ⟨W, ρ, x, hR, hx, q⟩ := zz3
  simp only [zY, jo2] at hx
  obtain ⟨⟨fl, ρ1⟩, e1, rfl⟩ := hx
  exact ⟨W, ρ, (fl, ρ1), hR, e1, q⟩
theorem qU {C : Addr} {te : TE} (k : Nat) {np cpos : Pos} (hc : X.calm = true) (hM : qT X E) (hq : Zy X.K C) (hcl : cl k = .ref C) (hg : Gl X x) (hm : X.mg x = some (.ref C)) (he : PE X e te) (hte : ∀ σ H Q, (∀ v, Q v H) → te σ H Q) (hdb : (x == ("__debug__" : Str)) = false)
    (hst : starEach [e] X.env = (false, eval e X.env) :: starEach [] X.env) : IX X cl E (zY fa fuel (.raise k)) (.Raise (some (.Call (.Name x np) [e] [] cpos)) Option.none pos) :=
  .mk <| (zfM hc hM hq hg hm he hdb hst).imp fun D σ H zz3 => by
    obtain ⟨W, ρ, z, hR, hz, q⟩ := zz3
    simp only [zY] at hz
    cases hz
    refine hte σ H _ fun v => ?_
    have := q W σ H (.same hR (.refl H))
    rw [← hcl]
    exact this
theorem qV (hc : IT X (zA fa) c cc) (h1 : IXs X cl E (zS fa fuel t1) sts) (h2 : IXs X cl E (zS fa fuel t2) sts') : IX X cl E (zY fa fuel (.ifs cc t1 t2)) (.If c sts sts' pos) :=
  .mk <| (QR hc.h h1.h h2.h).imp fun D σ H zz3 => by
    obtain ⟨W, ρ, y, hR, hy, q⟩ := zz3
    simp only [zY, jo1] at hy
    obtain ⟨k, e1, e2⟩ := hy
    refine ⟨W, ρ, k, hR, e1, fun H1 w1 => ?_⟩
    have p1 := SPost.same hR w1
    show if k = true then tX X.K cl E (zS fa fuel t1) D σ H1 else tX X.K cl E (zS fa fuel t2) D σ H1
    cases k with
    | true => rw [if_pos rfl] at e2 ⊢; exact ⟨W, ρ, y, p1.r, e2, fun W2 σ2 H2 p2 => FlXOk.back p1 (q W2 σ2 H2 (p1.trans p2 hR))⟩
    | false => rw [if_neg Bool.false_ne_true] at e2 ⊢; exact ⟨W, ρ, y, p1.r, e2, fun W2 σ2 H2 p2 => FlXOk.back p1 (q W2 σ2 H2 (p1.trans p2 hR))⟩
noncomputable def qW (K : PySem.W.Frag) (cl : Nat → Value) (E : XK) (fa : Nat → List D → Option Ans) (i : Nat) (cs : Es) : TE := fun σ H Q => ∃ W ρ a, R K W ρ σ H ∧ wr fa i cs ρ = some a ∧ match a with
  | .ok r [] => ∀ v H', Same H H' → Res K W H H' r v → Q v H'
  | .ok _ _ => False
  | .ex c => ∀ H', Same H H' → E (cl c) Option.none H'
theorem qX {k i : Nat} {f : Addr} {fd : FuncData} {ps : List Str} (F : FnOk X.prog X.w X.K X.mg X.base (yE X.prog X.w) k f fd ps (wF X.K cl fa i)) (hP : vj (yE X.prog X.w) X E) (hr : Room k X.A) (hg : Gl X x) (hm : X.mg x = some (.ref f))
    (hk : PySem.W.keepIn X.K (.ref f) = true) (hb : Binds X.K fd ps []) (ha : IA X (zA fa) (e :: es) cs) (hdb : (x == ("__debug__" : Str)) = false) (he : starEach (e :: es) X.env = (false, eval e X.env) :: starEach es X.env)
    (hpl : (backTo pos (starEach es X.env)).any (·.1) = false) : PE X (.Call (.Name x p) (e :: es) [] pos) (qW X.K cl E fa i cs) :=
  (kj F hr hg hm hk hb .nil hP ha.h hdb he hpl).imp fun σ H Q zz3 => by
    obtain ⟨W, ρ, a, hR, h, q⟩ := zz3
    unfold wr at h
    rw [jo1] at h
    obtain ⟨rs, e1, e2⟩ := h
    split at e2
    · cases e2
    rename_i hl
    have hl : rs.any SV.lent = false := by simpa using hl
    refine ⟨W, ρ, rs, hR, e1, fun vs H1 s1 f => ?_⟩
    show wF X.K cl fa i (vs ++ []) H1 Q E
    rw [List.append_nil]
    refine ⟨W, _, hR.wf' s1, Jd f hl, ?_⟩
    cases a with
    | ok r outs =>
      cases outs with
      | nil => exact .inl ⟨r, e2, fun v H' s2 h => q v H' (s1.trans s2) (h.back s1)⟩
      | cons _ _ => exact q.elim
    | ex c => exact .inr ⟨c, e2, fun H' s2 => q H' (s1.trans s2)⟩
section
variable {i : Nat} (hp : PE X e (qW X.K cl E fa i cs))
include hp
theorem qY (hs : swapsWith e Option.none pos.line X.env = pure false := by rfl) : IX X cl E (zY fa fuel (.callX i cs)) (.Expr e pos) :=
  .mk <| (Vk hp hs).imp fun D σ H zz3 => by
    obtain ⟨W, ρ, x, hR, hx, q⟩ := zz3
    simp only [zY, jo1] at hx
    obtain ⟨a, e1, e2⟩ := hx
    refine ⟨W, ρ, a, hR, e1, ?_⟩
    split at e2
    · cases e2; exact fun v H' s1 _ => q W σ H' (.same hR s1)
    · cases e2; exact fun H' s1 => q W σ H' (.same hR s1)
    · cases e2
end
end
end L2.LW
set_option maxHeartbeats 4000000
namespace L2.LW
open PySem PySem.Spec PySem.W PySem.Calls PyProof.Rows
section
variable {K : PySem.W.Frag} {x t c : Value} {H : Heap → Prop}
theorem zfN (ty : ∀ (M : Model) (h : Heap), K.In h → H h → Looks M h (typeOf x) t) (e : kitOne K t c = some true) : Answers (fun s => K.In s.heap ∧ H s.heap) x c true := by
  rintro dep tk prog w A R ⟨h0, g, d, tt, os⟩ ⟨⟨X, p⟩, hq⟩
  have LT := ty (model prog w) h0 X p
  unfold kitOne at e
  unfold Builtin.«isinstance.nested»
  refine wpAny_bind (LT.at ?_)
  by_cases q : (t == c) = true
  · rw [if_pos q]
    first
      | exact wpAny_bind (wpAny_rule (hq tt))
      | exact wpAny_bind (wpAny_rule (wpAny_pure (hq tt)))
      | ((repeat lk); exact hq tt)
  · rw [if_neg q] at e ⊢
    obtain ⟨h1, h2, h3⟩ := kit_cls (M := model prog w) X e
    have h4 : Looks (model prog w) h0 (isInstance x c) true := LT.andThen h3
    refine wpAny_bind (h1.at ?_)
    rw [if_pos (by decide)]
    k_delta "plainIsInstance"
    refine wpAny_bind (wpAny_bind (h2.at ?_))
    simp only [Bool.not_true, Bool.false_eq_true, if_false]
    refine wpAny_bind (h4.at ?_)
    first
      | exact wpAny_pure (wpAny_pure (hq tt))
      | (simp only [if_true]; first | exact wpAny_pure (wpAny_pure (hq tt)) | exact wpAny_pure (hq tt) | exact wpAny_bind (wpAny_pure (wpAny_pure (hq tt))))
variable {prog : Program} {w : World} {A : Around} {E : Value → Shared → Prop} {s : Shared} {Q : Value → Shared → Prop}
theorem zfO (ty : ∀ (M : Model) (h : Heap), K.In h → H h → Looks M h (typeOf x) t) (X : K.In s.heap) (p : H s.heap) (e : kitOne K t c = some true) (hx : x ≠ .builtin "__main__.__loader__#opaque") (h : ∀ tk, Q (.bool true) { s with toks := tk }) :
    wpAny (model prog w) A (call (.builtin "isinstance") [x, c]) Q E s :=
  call_isinstance (S := fun _ R s => (K.In s.heap ∧ H s.heap) ∧ ∀ tk, R (.ok (.ret (.bool true))) { s with toks := tk })
    (fun prog w A R s hs => isinstance_outer (zfN ty e 0 _ prog w A R s hs) hx) ⟨⟨X, p⟩, h⟩
end
noncomputable abbrev xx (X : Cx) (a : Addr) (o : Obj) : Cx := { X with A := X.A.mark (some (.ref a)), calm := false, pn := (a, o) :: X.pn, xe := fun _ _ => False }
section
variable {X : Cx} {pins : List (Addr × Obj)} {σ : St} {H : Hp} {s : Shared} {a : Addr} {o : Obj}
theorem zfP (ok : X.Ok) : (xx X a o).Ok :=
  ⟨ok.mod, ok.kind, ok.glob, ok.blt, ok.above, ok.inj, ok.has, ok.cab, (fun z => nomatch z), ok.frames, ok.stk, ok.exf, ok.bs, ok.bsz, ok.noex, ok.exfs, ok.funs, ok.frf⟩
theorem Xj (I : Inv X pins σ H s) (h1 : s.heap.get? a = some o) (h2 : H a = Option.none) (h3 : a ≠ X.env.locals) (h4 : a ∉ X.fs) (h5 : ∀ v, o.data ≠ .cell v) : Inv (xx X a o) pins σ H s :=
  ⟨zfP I.ok, I.os, I.bare, I.base, I.loc, I.cell, I.free, I.freeC, fun p hp => by
    rcases List.mem_cons.mp (show p ∈ (a, o) :: (X.pn ++ pins) from hp) with rfl | hp
    · exact ⟨h1, h2, h3, h4, h5⟩
    · exact I.pin p hp, I.hok, I.len⟩
theorem qZ (I : Inv (xx X a o) pins σ H s) (ok : X.Ok) : Inv X pins σ H s :=
  ⟨ok, I.os, I.bare, I.base, I.loc, I.cell, I.free, I.freeC, fun p hp => I.pin p (List.mem_cons_of_mem _ hp), I.hok, I.len⟩
theorem Inv.gone {k : Nat} {n : Str} {m : Str → Option Value} {h' : Heap} {v : Option Value} {tk : Nat} (I : Inv X pins σ H s) (hN : X.N.Nodup) (hi : X.N[k]? = some n)
    (hl : ∀ (i : Nat) (x : Str) (v : V), X.N[i]? = some x → σ[i]? = some (some v) → xX X.env.scope x → ∃ u, RelV v u ∧ QO X.env s.heap m x u)
    (hn : h'.Ns X.env.locals (fun x => if x = n then v else m x)) (hs : Heap.SameBut X.env.locals s.heap h') : Inv X pins (σ.set k Option.none) H { s with heap := h', toks := tk } := by
  have cne := I.cne
  have low : ∀ b o, X.s₀.heap.get? b = some o → b ≠ X.env.locals := fun b o e => Nat.ne_of_lt (Nat.lt_of_lt_of_le (Heap.lt_size e) I.ok.above)
  refine ⟨I.ok, I.os, I.bare, ⟨fun b o e z hb hx => (hs.2 b (low b o e)).trans (I.base.keep b o e z hb hx), fun b o e z hb hx => ?_, I.base.free, fun b o e hx => ?_, I.base.tups, I.base.frzs, I.base.tbls⟩, ⟨_, hn, fun j y w e1 e2 e3 => ?_⟩, fun y c e => ?_, I.free, I.freeC, fun p hp => ?_, fun b ob e => ?_, by rw [List.length_set]; exact I.len⟩
  · obtain ⟨sl, e1⟩ := I.base.slot b o e z hb hx
    exact ⟨sl, (hs.2 b (low b o e)).trans e1⟩
  · obtain ⟨o', e1⟩ := I.base.there b o e hx
    exact ⟨o', (hs.2 b (low b o e)).trans e1⟩
  · by_cases hj : j = k
    · subst hj
      rcases yD e2 with ⟨_, z, _⟩ | ⟨ne, _⟩
      · cases z
      · exact absurd rfl ne
    · rw [List.getElem?_set_ne (Ne.symm hj)] at e2
      obtain ⟨u, r, q⟩ := hl j y w e1 e2 e3
      refine ⟨u, r, ?_⟩
      rcases q with ⟨kk, e⟩ | ⟨kk, c, e, z⟩
      · have ne : y ≠ n := fun e => hj (Vi hN e1 (e ▸ hi))
        exact .inl ⟨kk, by simp [ne, e]⟩
      · exact .inr ⟨kk, c, e, z.sameBut hs (cne y c e)⟩
  · obtain ⟨w, z⟩ := I.cell y c e
    exact ⟨w, z.sameBut hs (cne y c e)⟩
  · obtain ⟨e, z, ne, nf, d⟩ := I.pin p hp
    exact ⟨(hs.2 p.1 ne).trans e, z, ne, nf, d⟩
  · refine (I.hok b ob e).stay (fun c u hc q => (hs.2 c ?_).trans q) (fun _ q => q) fun _ _ q => q
    rintro rfl
    have fr := I.free
    rcases hc with z | z
    · rw [z, e] at fr; cases fr
    · rw [z] at fr; cases fr
noncomputable def Jr (k : Nat) (a : Addr) : TE := fun σ H Q => σ[k]? = some (some (.ref a)) ∧ Q (.bl true) H
theorem zfQ {k : Nat} {n y : Str} {c : V} {cls cv : Value} {p p1 p2 pos : Pos} (hN : X.N[k]? = some n) (hv : xX X.env.scope n) (hd : (n == ("__debug__" : Str)) = false) (hcd : (n == ("__classdict__" : Str)) = false)
    (ho : o.cls = cls) (hc : kitOne X.K cls cv = some true) (hg : Gl X "isinstance") (hm : X.mg "isinstance" = Option.none) (hcv : ∀ u, RelV c u → u = cv) (hy : PE (xx X a o) (.Name y p2) (tC c))
    (h1 : starEach [Expr.Name n p1, .Name y p2] X.env = (false, eval (.Name n p1) X.env) :: starEach [Expr.Name y p2] X.env) (h2 : starEach [Expr.Name y p2] X.env = (false, eval (.Name y p2) X.env) :: starEach [] X.env)
    (hpl : (backTo pos (starEach [Expr.Name y p2] X.env)).any (·.1) = false) :
    PE (xx X a o) (.Call (.Name "isinstance" p) [.Name n p1, .Name y p2] [] pos) (Jr k a) := by
  have cr : CallR (xx X a o) (.builtin "isinstance") (fun vs H Q => vs = [.ref a, c] ∧ Q (.bl true) H) := by
    rintro pins s σ H xs us Q I rv ⟨rfl, q⟩
    cases rv with
    | cons r1 rv =>
      cases rv with
      | cons r2 rv =>
        cases rv
        cases r1
        obtain rfl := hcv _ r2
        have pin := I.pin (a, o) (List.mem_append_left _ List.mem_cons_self)
        refine zfO (K := X.K) (t := cls) (H := fun h => ∃ o', h.get? a = some o' ∧ o'.cls = cls) (fun M h _ ⟨o', e1, e2⟩ => e2 ▸ (Looks.ld e1).andThen .now) I.kIn ⟨o, pin.1, ho⟩ hc (fun z => nomatch z) fun tk => ⟨.bl true, H, I.tok tk, rfl, q⟩
  refine (Vq cr hg hm PyProof.Rows.boot_isinstance (wB (Yj hN hv hd hcd) (wB hy vi h2) h1) (by decide) (by decide) h1 hpl).imp fun σ H Q ⟨hk, q⟩ => ?_
  exact ⟨_, hk, rfl, q⟩
end
end L2.LW
set_option maxHeartbeats 4000000
namespace L2.LW
open PySem PySem.Spec PySem.W PySem.Calls PyProof.Rows
noncomputable abbrev wY (X : Cx) (pn : List (Addr × Obj)) (xe : Value → Shared → Prop) : Cx := { X with pn := pn, xe := xe }
theorem ga {X : Cx} {pins : List (Addr × Obj)} {σ : St} {H : Hp} {s : Shared} {xe : Value → Shared → Prop} (I : Inv X pins σ H s) : Inv (wY X (X.pn ++ pins) xe) [] σ H s :=
  ⟨⟨I.ok.mod, I.ok.kind, I.ok.glob, I.ok.blt, I.ok.above, I.ok.inj, I.ok.has, I.ok.cab, I.ok.hd, I.ok.frames, I.ok.stk, I.ok.exf, I.ok.bs, I.ok.bsz, I.ok.noex, I.ok.exfs, I.ok.funs, I.ok.frf⟩, I.os, I.bare, I.base, I.loc, I.cell, I.free, I.freeC, fun p hp => I.pin p (by simpa using hp), I.hok, I.len⟩
theorem jB {X : Cx} {pins pins' : List (Addr × Obj)} {σ : St} {H : Hp} {s : Shared} {xe : Value → Shared → Prop} (I : Inv (wY X (X.pn ++ pins) xe) pins' σ H s) : Inv X pins σ H s :=
  ⟨⟨I.ok.mod, I.ok.kind, I.ok.glob, I.ok.blt, I.ok.above, I.ok.inj, I.ok.has, I.ok.cab, I.ok.hd, I.ok.frames, I.ok.stk, I.ok.exf, I.ok.bs, I.ok.bsz, I.ok.noex, I.ok.exfs, I.ok.funs, I.ok.frf⟩, I.os, I.bare, I.base, I.loc, I.cell, I.free, I.freeC, fun p hp => I.pin p (List.mem_append_left _ hp), I.hok, I.len⟩
end L2.LW
set_option maxHeartbeats 4000000
namespace L2.LW
open PySem PySem.Spec PySem.W PySem.Calls PyProof.Rows
theorem vt {X : Cx} {pins pins' : List (Addr × Obj)} {xe : Value → Shared → Prop} {D : Ends} {f : Flow} {s : Shared} (h : SP (wY X (X.pn ++ pins) xe) pins' D f s) : SP X pins D f s := by
  cases f with
  | next => obtain ⟨σ', H', I, q⟩ := h; exact ⟨σ', H', jB I, q⟩
  | brk => obtain ⟨σ', H', I, q⟩ := h; exact ⟨σ', H', jB I, q⟩
  | cont => obtain ⟨σ', H', I, q⟩ := h; exact ⟨σ', H', jB I, q⟩
  | ret u => obtain ⟨v, σ', H', I, r, q⟩ := h; exact ⟨v, σ', H', jB I, r, q⟩
theorem Js {Pg : Program} {w : World} {K : PySem.W.Frag} {mg : Str → Option Value} {base : Heap} {x qual : Str} {st : Stmt} {f : Addr} {fd : FuncData} {N ps : List Str} {k n i : Nat} {P : Nat → Option Fn} {fuel : Nat} {F0 : Fn} {cl : Nat → Value} {tb : Ts}
    (F : Fun K x qual st f fd) (S : FnScope N ps (zy st)) (hP : P i = some F0) (hnp : F0.np = ps.length) (hnl : F0.nl = N.length) (hxb : F0.xb = some tb)
    (hbody : ∀ (cdv : Value) (A : Around) (outer : List PySem.Env) (s : Shared) (H : Hp) (E : XK), Room k (A.deeper (envOfC qual (zy st) s.heap.objs.size f cdv)) →
      IXs (xg (yE Pg w) Pg w K mg base N qual (zy st) f cdv A outer s H E) cl E (zS (zn P fuel n) fuel tb) (xK st)) :
    FnOk Pg w K mg base (yE Pg w) (k + 1) f fd ps (wF K cl (zn P fuel (n + 1)) i) := by
  have dec : ∀ {ds : List D} {r : Ans}, zn P fuel (n + 1) i ds = some r → ds.length = F0.np ∧ wR (zS (zn P fuel n) fuel tb (xk [] 0 ds ++ List.replicate (F0.nl - F0.np) Option.none)) = some r := fun {ds r} h => by
    rw [zn, hP] at h
    simp only [Option.bind_some, hxb] at h
    split at h
    · exact ⟨by assumption, h⟩
    · cases h
  have dec0 := @dec
  obtain ⟨oc, od, kV, doc, pm, an, cdv, ct, osl, rfl, lk, hcd⟩ := F.ex
  refine kr lk hcd S (fun vs H Q E h => ?_) fun A outer s H vs Q E hr h => ⟨_, (hbody cdv A outer s H E hr).h, ?_⟩
  · obtain ⟨W, ds, wf, rp, ⟨r, e, _⟩ | ⟨c, e, _⟩⟩ := h
    · rw [← rp.length, (dec e).1, hnp]
    · rw [← rp.length, (dec e).1, hnp]
  · obtain ⟨W, ds, wf, rp, h⟩ := h
    have len : ds.length = F0.np := by
      obtain ⟨r, e, _⟩ | ⟨c, e, _⟩ := h
      · exact (dec e).1
      · exact (dec e).1
    have hlv := rp.length
    have hplN : ps.length ≤ N.length := by have := congrArg List.length S.pre; rw [List.length_take] at this; omega
    generalize hρ : xk [] 0 ds ++ List.replicate (F0.nl - F0.np) Option.none = ρ at dec
    have at_ : ∀ {j : Nat} {x : SV}, ρ[j]? = some (some x) → ∃ d, ds[j]? = some d ∧ x = .val d := fun {j x} h => by
      rw [← hρ] at h
      obtain ⟨d, e1, e2⟩ := qG h
      exact ⟨d, e1, by simpa using e2⟩
    have noown : ∀ a, ¬ xu ρ (yV N vs) a := fun a zz1 => by
      obtain ⟨j, x, d, h1, hc, h2⟩ := zz1
      obtain ⟨d', e1, rfl⟩ := at_ h1
      cases hc
    have hR : R K W ρ (yV N vs) H := by
      refine ⟨fun j d h => ?_, fun j d h => ?_, fun j x d h hc => ?_, fun j k x y d e a h1 h2 c1 c2 h3 h4 => ?_, wf, ?_⟩
      · obtain ⟨d', e1, e2⟩ := at_ h
        cases e2
        obtain ⟨v, h1, h2⟩ := rp.get e1
        exact ⟨v, vO h1, h2⟩
      · obtain ⟨d', e1, e2⟩ := at_ h
        cases e2
      · obtain ⟨d', e1, rfl⟩ := at_ h
        cases hc
      · obtain ⟨d1, e1, rfl⟩ := at_ h1
        cases c1
      · rw [← hρ]
        unfold yV
        rw [List.length_append, List.length_append, Zw, List.length_map, List.length_replicate, List.length_replicate]
        omega
    have fin : ∀ {an : Ans}, zn P fuel (n + 1) i ds = some an → ∃ y : FlX × LW.Env, zS (zn P fuel n) fuel tb ρ = some y ∧ wR (some y) = some an := fun {an} e => by
      have e' : wR (zS (zn P fuel n) fuel tb ρ) = some an := by rw [← hρ]; exact (dec0 e).2
      cases hx : zS (zn P fuel n) fuel tb ρ with
      | none => rw [hx] at e'; cases e'
      | some y => rw [hx] at e'; exact ⟨y, rfl, e'⟩
    obtain ⟨r, e, q⟩ | ⟨c, e, q⟩ := h
    · obtain ⟨⟨fl, ρ'⟩, hx, he⟩ := fin e
      refine ⟨W, ρ, (fl, ρ'), hR, hx, fun W' σ' H' p => ?_⟩
      have kp : Same H H' := fun b o h => p.keep b o h (noown b)
      have sub : ∀ b, W b → W' b := fun b w => (p.wout b w (noown b)).1
      cases fl with
      | ex c => cases he
      | fl f0 =>
        cases f0 with
        | br => cases he
        | ct => cases he
        | nx => cases he; exact q _ H' kp (.val .non)
        | rt r' =>
          cases he
          intro v hv
          cases hv with
          | val h => exact q v H' kp (.val (h.less sub))
          | new h nn n' eL rr =>
            have ha := (p.win _ h).resolve_left fun w => nn ⟨w, noown _⟩
            refine q _ H' kp (.new ha eL (rr.less fun b w => ?_))
            rcases w with w | rfl
            · exact sub b w
            · exact h
    · obtain ⟨⟨fl, ρ'⟩, hx, he⟩ := fin e
      refine ⟨W, ρ, (fl, ρ'), hR, hx, fun W' σ' H' p => ?_⟩
      have kp : Same H H' := fun b o h => p.keep b o h (noown b)
      cases fl with
      | ex c' => cases he; exact q H' kp
      | fl f0 => cases f0 <;> cases he
theorem gb {K : PySem.W.Frag} {W : Addr → Prop} {H : Hp} : ∀ {ds : List D} {vs : List V}, ds.length = vs.length → (∀ (k : Nat) (d : D), ds[k]? = some d → ∃ v, vs[k]? = some v ∧ Rep K W H d v) → Reps K W H ds vs
  | [], [], _, _ => .nil
  | [], _ :: _, l, _ => by cases l
  | _ :: _, [], l, _ => by cases l
  | d :: ds, v :: vs, l, h => by
    obtain ⟨v', h1, h2⟩ := h 0 d rfl
    cases h1
    exact .cons h2 (gb (by simpa using l) fun j d' z => h (j + 1) d' z)
theorem Jt {Pg : Program} {w : World} {K : PySem.W.Frag} {mg : Str → Option Value} {base : Heap} {f : Addr} {fd : FuncData} {ps : List Str} {k n i : Nat} {P : Nat → Option Fn} {fuel : Nat} {F0 : Fn} {cl : Nat → Value} {tb : Ts}
    (F : FnOk Pg w K mg base (yE Pg w) k f fd ps (wF K cl (zn P fuel (n + 1)) i)) (hP : P i = some F0) (hxb : F0.xb = some tb) : FnOk Pg w K mg base yv k f fd ps (xa K (zn P fuel (n + 1)) i []) := by
  have no : ∀ {ds r outs}, zn P fuel (n + 1) i ds = some (.ok r outs) → outs = [] := fun {ds r outs} h => by
    rw [zn, hP] at h
    simp only [Option.bind_some, hxb] at h
    split at h
    · generalize zS (zn P fuel n) fuel tb _ = y at h
      unfold wR at h
      split at h <;> cases h <;> rfl
    · cases h
  have to : ∀ {vs H Q E}, xa K (zn P fuel (n + 1)) i [] vs H Q E → wF K cl (zn P fuel (n + 1)) i vs H Q E0 := fun {vs H Q E} ⟨W, ds, r, outs, wf, rp, e, q⟩ => by
    obtain rfl := no e
    refine ⟨W, ds, wf, ?_, .inl ⟨r, e, fun v H' s h => q v H' (fun a o z _ => s a o z) .nil h⟩⟩
    exact gb rp.len fun j d z => rp.val j d z (by simp)
  refine ⟨fun vs H Q E h => F.len vs H Q E0 (to h), fun A outer s H args us vs Q E hr e0 hb hv hs => codeAny_mono (F.run A outer s H args us vs Q E0 hr e0 hb hv (to hs)) fun r s' h => ?_⟩
  cases r with
  | ok fl => cases fl <;> exact h
  | error e => obtain ⟨_, _, _, _, _, _, _, _, _, z⟩ := h; exact z.elim
end L2.LW
namespace L2.LW
open PySem PySem.Spec PySem.W PySem.Calls PyProof.Rows
noncomputable def xf (CL : Nat → Addr) (c : Nat) : Value := .ref (CL c)
theorem Ju {P : Nat → Prop} : ∀ c ∈ ([] : List Nat), P c := fun _ h => by cases h
theorem all_cons {P : Nat → Prop} {a : Nat} {l : List Nat} (h : P a) (t : ∀ c ∈ l, P c) : ∀ c ∈ a :: l, P c := fun c hc => by
  rcases List.mem_cons.mp hc with rfl | hc
  · exact h
  · exact t c hc
section
variable {X : Cx} {CL : Nat → Addr} {cs : List Nat} {k : Nat} {n y : Str} {p p1 p2 pos : Pos}
theorem zfR (hN : X.N[k]? = some n) (hv : xX X.env.scope n) (hd : (n == ("__debug__" : Str)) = false) (hcd : (n == ("__classdict__" : Str)) = false) (hg : Gl X "isinstance") (hm : X.mg "isinstance" = Option.none)
    (hgy : Gl X "ValueError") (hmy : X.mg "ValueError" = Option.none) (ha : ∀ c ∈ cs, kitOne X.K (xf CL c) (.type "ValueError") = some true) :
    ∀ c ∈ cs, YQ c 7 = true → ∀ (a : Addr) (o : Obj), o.cls = xf CL c → PE (xx X a o) (.Call (.Name "isinstance" p) [.Name n p1, .Name "ValueError" p2] [] pos) (Jr k a) := fun c hc hs a o ho =>
  zfQ (c := .ty "ValueError") (cv := .type "ValueError") hN hv hd hcd ho (ha c hc) hg hm (fun u r => r) (QQ (u := .type "ValueError") hgy hmy PyProof.Rows.Boot.«ValueError» rfl (by decide) (by decide)) ze ze (zR ze zo)
end
theorem Jv {Pg : Program} {w : World} {K : PySem.W.Frag} {mg : Str → Option Value} {base : Heap} {f : Addr} {fd : FuncData} {ps : List Str} {k i : Nat} {P : Nat → Option Fn} {fuel : Nat} {cl : Nat → Value} : FnOk Pg w K mg base (yE Pg w) k f fd ps (wF K cl (zn P fuel 0) i) := by
  have no : ∀ vs H Q E, ¬ wF K cl (zn P fuel 0) i vs H Q E := fun vs H Q E zz4 => by
    obtain ⟨W, ds, _, _, h⟩ := zz4
    rcases h with ⟨r, e, _⟩ | ⟨c, e, _⟩ <;> cases e
  exact ⟨fun vs H Q E h => (no _ _ _ _ h).elim, fun A outer s H args us vs Q E _ _ _ _ h => (no _ _ _ _ h).elim⟩
end L2.LW
set_option maxHeartbeats 4000000
set_option maxRecDepth 100000
set_option maxHeartbeats 4000000
namespace L2.LW
open PySem PySem.Spec PySem.W PySem.Calls PyProof.Rows
noncomputable def Jw (n : Nat) (itm : Nat → Option V) (ok : Hp → Prop) : It :=
  ⟨fun i H => i < n ∧ ok H, fun i H v H' => ∃ p x, H p = Option.none ∧ v = .ref p ∧ H' = zJ H p (.tup [.int i, x]) ∧ itm i = some x, fun i H => i = n ∧ ok H⟩
section
variable {X : Cx} {pins : List (Addr × Obj)} {σ : St} {H : Hp} {s : Shared}
theorem gc {e it : Addr} {h' : Heap} {i : Int} {tk : Tok} {k : Nat} {x : V} {u : Value} (I : Inv X pins σ H s) (fe : xr X pins H e) (fi : xr X pins H it)
    (kp : ∀ b o, b ≠ e → b ≠ it → s.heap.get? b = some o → h'.get? b = some o) (ht : h'.get? s.heap.objs.size = some { cls := .type "tuple", data := .seq #[.int i tk, u] }) (rx : RelV x u) :
    Inv X pins σ (zJ H s.heap.objs.size (.tup [.int i, x])) { s with heap := h', toks := k } := by
  have low : ∀ b o, s.heap.get? b = some o → b ≠ s.heap.objs.size := fun b o z => Nat.ne_of_lt (Heap.lt_size z)
  have lowH : ∀ b o, H b = some o → b ≠ s.heap.objs.size := fun b o z => Nat.ne_of_lt (I.hok.lt z)
  have un : Un (zM X.stack) [e, it] H (zJ H s.heap.objs.size (.tup [.int i, x])) s.heap h' :=
    ⟨fun b o z _ _ hx => kp b o (fun y => hx (by simp [y])) (fun y => hx (by simp [y])) z, fun b o z _ _ hx => ⟨o.slots, kp b o (fun y => hx (by simp [y])) (fun y => hx (by simp [y])) z⟩,
      fun b o z n _ => by rw [zL (low b o z)]; exact n, fun b o z hx => ⟨o, kp b o (fun y => hx (by simp [y])) (fun y => hx (by simp [y])) z⟩,
      fun b xs z => by rw [zL (lowH b _ z)]; exact z, fun b o u z => by rw [zL (lowH b _ z)]; exact z, fun b ps z => ⟨#[], by rw [zL (lowH b _ z)]; simpa using z⟩⟩
  have ok : HOk X.prog X.w (zJ H s.heap.objs.size (.tup [.int i, x])) h' := fun a o z => by
    by_cases ha : a = s.heap.objs.size
    · subst ha
      rw [wm] at z
      cases z
      exact ⟨by show 2 ≤ sizeLine; decide, [.int i tk, u], .cons ⟨tk, rfl⟩ (.cons rx .nil), _, ht, rfl, _, rfl⟩
    · rw [zL ha] at z
      have nt : ∀ b, (b = a ∨ H b = some (.own a)) → b ≠ e ∧ b ≠ it := fun b hb => by
        have hb' : H b ≠ Option.none := by
          rcases hb with rfl | hb
          · rw [z]; exact fun z => nomatch z
          · rw [hb]; exact fun z => nomatch z
        exact ⟨fun y => hb' (by rw [y]; exact fe.1), fun y => hb' (by rw [y]; exact fi.1)⟩
      exact (I.hok a o z).stay (fun b u hb q => kp b u (nt b hb).1 (nt b hb).2 q) (fun b q => by rw [zL (lowH b _ q)]; exact q) fun b xs q => by rw [zL (lowH b _ q)]; exact q
  refine I.call' (s' := { s with heap := h', toks := k }) rfl un ok I.bare fun b hb => ?_
  rcases List.mem_cons.mp hb with rfl | hb
  · exact ⟨fe.2.2.2.1, fe.2.1, fe.2.2.2.2.1, fe.2.2.2.2.2⟩
  · obtain rfl := List.mem_singleton.mp hb
    exact ⟨fi.2.2.2.1, fi.2.1, fi.2.2.2.2.1, fi.2.2.2.2.2⟩
theorem gd {e it : Addr} {h' : Heap} (I : Inv X pins σ H s) (fi : xr X pins H it) (kp : ∀ b o, b ≠ it → s.heap.get? b = some o → h'.get? b = some o) : Inv X pins σ H { s with heap := h' } :=
  I.turned (t' := s.toks) (fun b o hb z => kp b o hb z) fi.1 fi.2.1 fi.2.2.2.1 fi.2.2.2.2.1 fi.2.2.2.2.2
end
theorem gf {P : Program} {w : World} {A : Around} {E : Value → Shared → Prop} {s : Shared} {elts : List Expr} {kt : Nat} {pt : Pos} {e it a : Addr} {i : Int} {item : Value} {Q : Unit → Shared → Prop} (he : IsEnumOut s.heap e it i item a)
    (hQ : ∀ h', IsEnum h' e it i item → Heap.SameBut e s.heap h' → Q () { s with heap := h' }) : wpAny (model P w) A (letOwnedTupleGo (.Tuple elts kt pt) (.ref e) (.ref a)) Q E s := wpAny_letOwnedTupleGo_enum he hQ
theorem zfS {P : Program} {w : World} {K : PySem.W.Frag} {elts : List Expr} {kt : Nat} {pt : Pos} {xs : List V} (a it e : Addr) (ne : e ≠ it) :
    Turn P w K (.Tuple elts kt pt) (Jw xs.length (fun i => xs[i]?) fun H => SqL K H a xs) [e, it] e (fun i h => (∃ old, IsEnum h e it i old) ∧ h.IsListIter it a i) where
  mem := by simp
  obj := fun i h zz2 b hb => by
    obtain ⟨⟨old, st⟩, st2⟩ := zz2
    rcases List.mem_cons.mp hb with rfl | hb
    · exact ⟨_, st, fun v z => by cases z⟩
    · obtain rfl := List.mem_singleton.mp hb
      obtain ⟨o, e1, c, d⟩ := st2
      exact ⟨o, e1, fun v z => by rw [d] at z; cases z⟩
  keep := fun i h h' ⟨⟨old, st⟩, st2⟩ k => ⟨⟨old, k e (by simp) _ st⟩, st2.at fun o z => k it (by simp) o z⟩
  item := by
    intro X hP hw hK hc i pins s σ H E I hf ⟨⟨old, st⟩, st2⟩ ⟨hlt, hq⟩
    subst hP hw hK
    obtain ⟨its, rv, p, hz⟩ := I.list hq
    obtain ⟨u, hu, ru⟩ := rv.get (show xs[i]? = some xs[i] by simp [hlt])
    refine wpAny_pyNext_enum_item st st2 p.isList (x := u) (by simpa using hu) ne fun h1 eo l1 tp sz kp => ?_
    refine ⟨_, rfl, gf eo fun h2 en sb => ?_⟩
    have lt : e < s.heap.objs.size := Heap.lt_size st
    have lt2 : it < s.heap.objs.size := by obtain ⟨o, z, _⟩ := st2; exact Heap.lt_size z
    have I2 := gc (h' := h2) (i := (i : Int)) (tk := s.toks) (k := s.toks + 1) I (hf e (by simp)) (hf it (by simp)) (fun b o n1 n2 z => (sb.2 b n1).trans (kp b o n1 n2 z)) ((sb.2 _ (Nat.ne_of_gt lt)).trans tp) ru
    refine ⟨.ref s.heap.objs.size, _, I2, rfl, ⟨_, _, I.fresh, rfl, rfl, by simp [hlt]⟩, ⟨⟨u, ?_⟩, l1.extBut sb.extBut (Ne.symm ne)⟩, fun b hb => ?_⟩
    · have e2 : ((i + 1 : Nat) : Int) = (i : Int) + 1 := by omega
      rw [e2]; exact en
    · have nb : b ≠ s.heap.objs.size := by
        rcases List.mem_cons.mp hb with rfl | hb
        · exact Nat.ne_of_lt lt
        · obtain rfl := List.mem_singleton.mp hb; exact Nat.ne_of_lt lt2
      rw [zL nb]; exact (hf b hb).1
  done := by
    intro X hP hw hK hc i pins s σ H E I hf ⟨⟨old, st⟩, st2⟩ ⟨hge, hq⟩
    subst hP hw hK
    obtain ⟨its, rv, p, hz⟩ := I.list hq
    have hl := rv.length
    exact wpAny_pyNext_enum_end (I.ok.hd hc) st st2 p.isList (by simp; omega) fun h' eb => ⟨rfl, gd (e := e) I (hf it (by simp)) fun b o hb z => eb b o hb z⟩
  self := fun _ _ _ _ _ ⟨⟨_, st⟩, _⟩ h => wpAny_pyIter_enum st h
noncomputable def wZ (x : Str) : List V := x.cps.toList.map fun c => V.str ⟨#[c]⟩
theorem gg {P : Program} {w : World} {A : Around} (hh : A.handled = Option.none) (it : Addr) (x : Str) (t : Tok) :
    Draws P w A it [it] x.cps.size (fun i v => ∃ c u, x.cps[i]? = some c ∧ v = .str ⟨#[c]⟩ u) (fun i h => h.IsStrIter it (strIterType x) x t i) := by
  unfold strIterType
  by_cases h : (x.cps.all (· < 128)) = true
  · rw [if_pos h]; exact Draws.strAscii hh it x t
  · rw [if_neg h]; exact Draws.strWide hh it x t
theorem zfT {P : Program} {w : World} {K : PySem.W.Frag} {elts : List Expr} {kt : Nat} {pt : Pos} {x : Str} {t : Tok} (it e : Addr) (ne : e ≠ it) :
    Turn P w K (.Tuple elts kt pt) (Jw x.cps.size (fun i => (wZ x)[i]?) fun _ => True) [e, it] e (fun i h => (∃ old, IsEnum h e it i old) ∧ h.IsStrIter it (strIterType x) x t i) where
  mem := by simp
  obj := fun i h zz2 b hb => by
    obtain ⟨⟨old, st⟩, st2⟩ := zz2
    rcases List.mem_cons.mp hb with rfl | hb
    · exact ⟨_, st, fun v z => by cases z⟩
    · obtain rfl := List.mem_singleton.mp hb
      obtain ⟨o, e1, c, d⟩ := st2
      exact ⟨o, e1, fun v z => by rw [d] at z; cases z⟩
  keep := fun i h h' ⟨⟨old, st⟩, o, e1, r⟩ k => ⟨⟨old, k e (by simp) _ st⟩, o, k it (by simp) o e1, r⟩
  item := by
    intro X hP hw hK hc i pins s σ H E I hf ⟨⟨old, st⟩, st2⟩ ⟨hlt, _⟩
    subst hP hw hK
    have D := gg (P := X.prog) (w := X.w) (A := X.A.in1) (I.ok.hd hc) it x t
    refine wpAny_pyNext_enum_itemD D st st2 hlt ne (by simpa using ne) fun v h1 tk ⟨c, u, hc1, hv⟩ eo l1 tp sz kp => ?_
    subst hv
    refine ⟨_, rfl, gf (s := { s with heap := h1, toks := tk + 1 }) eo fun h2 en sb => ?_⟩
    have lt : e < s.heap.objs.size := Heap.lt_size st
    have lt2 : it < s.heap.objs.size := by obtain ⟨o, z, _⟩ := st2; exact Heap.lt_size z
    have I2 := gc (h' := h2) (i := (i : Int)) (tk := tk) (k := tk + 1) (x := V.str ⟨#[c]⟩) I (hf e (by simp)) (hf it (by simp)) (fun b o n1 n2 z => (sb.2 b n1).trans (kp b o n1 n2 z)) ((sb.2 _ (Nat.ne_of_gt lt)).trans tp) ⟨u, rfl⟩
    refine ⟨.ref s.heap.objs.size, _, I2, rfl, ⟨_, _, I.fresh, rfl, rfl, ?_⟩, ⟨⟨.str ⟨#[c]⟩ u, ?_⟩, D.frame _ _ _ l1 fun b hb o z => ?_⟩, fun b hb => ?_⟩
    · show (wZ x)[i]? = _
      unfold wZ
      rw [List.getElem?_map, Array.getElem?_toList, hc1]; rfl
    · have e2 : ((i + 1 : Nat) : Int) = (i : Int) + 1 := by omega
      rw [e2]; exact en
    · obtain rfl := List.mem_singleton.mp hb
      exact (sb.2 b (Ne.symm ne)).trans z
    · have nb : b ≠ s.heap.objs.size := by
        rcases List.mem_cons.mp hb with rfl | hb
        · exact Nat.ne_of_lt lt
        · obtain rfl := List.mem_singleton.mp hb; exact Nat.ne_of_lt lt2
      rw [zL nb]; exact (hf b hb).1
  done := by
    intro X hP hw hK hc i pins s σ H E I hf ⟨⟨old, st⟩, st2⟩ ⟨hge, _⟩
    subst hP hw hK
    subst hge
    have D := gg (P := X.prog) (w := X.w) (A := X.A.in1) (I.ok.hd hc) it x t
    exact wpAny_pyNext_enum_endD D st st2 fun h' eb => ⟨rfl, gd (e := e) I (hf it (by simp)) fun b o hb z => eb b o hb z⟩
  self := fun _ _ _ _ _ ⟨⟨_, st⟩, _⟩ h => wpAny_pyIter_enum st h
end L2.LW
set_option maxHeartbeats 4000000
namespace L2.LW
open PySem PySem.Spec PySem.W PySem.Calls PyProof.Rows PySem.Builtin PySem.Builtin.Str
noncomputable def yn (c : Nat) : List (List Nat) → List Nat
  | [] => []
  | [p] => p
  | p :: q :: r => p ++ c :: yn c (q :: r)
theorem Jx {c : Nat} : ∀ {p l : List Nat} {q : List Nat} {r : List (List Nat)}, c ∉ p → zt c l = q :: r → zt c (p ++ l) = (p ++ q) :: r
  | [], _, _, _, _, h => h
  | a :: p, l, q, r, hn, h => by
    have ha : a ≠ c := fun z => hn (by rw [z]; exact List.mem_cons_self)
    have := Jx (p := p) (fun z => hn (List.mem_cons_of_mem _ z)) h
    show zt c (a :: (p ++ l)) = _
    rw [zt, if_neg ha, this]
    rfl
theorem zfU {c : Nat} {p : List Nat} (hn : c ∉ p) : zt c p = [p] := by
  have := Jx (l := []) (q := []) (r := []) hn rfl
  simpa using this
theorem Xk {c : Nat} : ∀ {ps : List (List Nat)}, ps ≠ [] → (∀ p ∈ ps, c ∉ p) → zt c (yn c ps) = ps
  | [], h, _ => absurd rfl h
  | [p], _, h => zfU (h p List.mem_cons_self)
  | p :: q :: r, _, h => by
    have ih := Xk (ps := q :: r) (by simp) fun x hx => h x (List.mem_cons_of_mem _ hx)
    show zt c (p ++ c :: yn c (q :: r)) = _
    have e : zt c (c :: yn c (q :: r)) = [] :: (q :: r) := by rw [zt, if_pos rfl, ih]
    rw [Jx (h p List.mem_cons_self) e, List.append_nil]
theorem gh (c : Nat) : ∀ ps : List Str, (Str.join ⟨#[c]⟩ ps).cps.toList = yn c (ps.map fun p => p.cps.toList)
  | [] => rfl
  | [p] => rfl
  | p :: q :: r => by
    have ih := gh c (q :: r)
    have e : Str.join ⟨#[c]⟩ (p :: q :: r) = p ++ ⟨#[c]⟩ ++ Str.join ⟨#[c]⟩ (q :: r) := rfl
    rw [e]
    have e2 : yn c ((p :: q :: r).map fun p => p.cps.toList) = p.cps.toList ++ c :: yn c ((q :: r).map fun p => p.cps.toList) := rfl
    rw [e2, ← ih]
    have e3 : ∀ a b : Str, (a ++ b).cps = a.cps ++ b.cps := fun _ _ => rfl
    rw [e3, e3]
    simp
theorem gi (x : Str) : Txt.split x ⟨#[10]⟩ = yQ x := by
  have h1 := StrLaws.join_split x ⟨#[10]⟩
  have h2 := StrLaws.split_free x 10
  have h3 := split_pos x ⟨#[10]⟩
  generalize Txt.split x ⟨#[10]⟩ = ps at h1 h2 h3
  have e : x.cps.toList = yn 10 (ps.map fun p => p.cps.toList) := by rw [← gh, h1]
  unfold yQ
  rw [e, Xk (by cases ps <;> simp_all) (fun p hp => by
    rw [List.mem_map] at hp
    obtain ⟨q, hq, rfl⟩ := hp
    exact h2 q hq), List.map_map]
  have : ∀ l : List Str, l = l.map ((fun l => (⟨l.toArray⟩ : Str)) ∘ fun p => p.cps.toList) := fun l => by
    induction l with
    | nil => rfl
    | cons a r ih => rw [List.map_cons, ← ih]; rfl
  exact this ps
theorem glue_join (ys : List Str) : Txt.join ⟨#[]⟩ ys = YI ys := by
  unfold Txt.join glued YI
  have key : ∀ (l : List Str) (acc : Array Nat), l.foldl (fun acc p => acc ++ (⟨#[]⟩ : Str).cps ++ p.cps) acc = acc ++ (l.flatMap fun y => y.cps.toList).toArray := fun l => by
    induction l with
    | nil => intro acc; simp
    | cons a r ih =>
      intro acc
      rw [List.foldl_cons, ih]
      apply Array.toList_inj.mp
      simp
  cases ys with
  | nil => rfl
  | cons a r =>
    show (⟨(r.foldl _ a.cps)⟩ : Str) = _
    rw [key]
    congr 1
    apply Array.toList_inj.mp
    simp
end L2.LW
namespace L2.LW
open PySem PySem.Spec PySem.W PySem.Calls PyProof.Rows PySem.Builtin PySem.Builtin.Str
theorem zfV {P : Program} {w : World} {A : Around} {E : Value → Shared → Prop} {s : Shared} {x y : Str} {t u : Tok} {Q : Value → Shared → Prop} (hy : (y.length == 0) = false) (hsz : x.length + 2 ≤ sizeLine)
    (h : ∀ l k, l.map (·.1) = Txt.split x y → Q (.ref s.heap.objs.size) { s with heap := s.heap.push { cls := .type "list", data := .seq (strValues l).toArray }, toks := k }) :
    wpAny (model P w) A (call (.builtin "str.split") [.str x t, .str y u]) Q E s := by
  have hn : (partsBetween x (occurrences x y 0 x.length (x.length + 1)) y.length).length ≤ sizeLine := by
    have := StrLaws.occ_length_le x y 0 x.length (x.length + 1)
    rw [length_partsBetween]; omega
  cases h1 : (decide (x.length < y.length) || decide (strKind x < strKind y)) with
  | true => exact call_meets PySem.F.slot_str_split (typeIs_str _ _ _) PySem.F.entry_str_split (PySem.F.args_str_split_2 _ _) (meets_str_split_cannot_occur x y t u h1) (h [(x, t)] s.toks (if_pos h1).symm)
  | false =>
    cases hf : (occurrences x y 0 x.length (x.length + 1)).isEmpty with
    | true => exact call_meets PySem.F.slot_str_split (typeIs_str _ _ _) PySem.F.entry_str_split (PySem.F.args_str_split_2 _ _) (meets_str_split_not_found x y t u h1 hy hf) (h [(x, t)] s.toks ((if_neg (ne_true_of_eq_false h1)).trans (if_pos hf)).symm)
    | false =>
      refine call_meets PySem.F.slot_str_split (typeIs_str _ _ _) PySem.F.entry_str_split (PySem.F.args_str_split_2 _ _) (meets_str_split_sep x y t u h1 hy hf (by omega) hn) ?_
      have q := h (numbered s.toks (partsBetween x (occurrences x y 0 x.length (x.length + 1)) y.length)) (s.toks + (partsBetween x (occurrences x y 0 x.length (x.length + 1)) y.length).length) ((numbered_texts _ _).trans ((if_neg (ne_true_of_eq_false h1)).trans (if_neg (ne_true_of_eq_false hf))).symm)
      rw [← strsFrom_eq] at q
      exact q
section
variable {X : Cx} {fn : Nat → List D → Option SV}
theorem Jy {K : PySem.W.Frag} {W : Addr → Prop} {H : Hp} : ∀ {l : List D} {xs : List V} {ys : List Str}, Reps K W H l xs → strs? l = some ys → xs = ys.map V.str
  | [], _, _, .nil, e => by cases e; rfl
  | d :: l, _, ys, .cons h t, e => by
    cases d with
    | str x =>
      simp only [strs?, jo2] at e
      obtain ⟨zs, e1, rfl⟩ := e
      rw [Jy t e1]
      cases h
      rfl
    | _ => cases e
theorem Jz : ∀ {ys : List Str} {us : List Value}, Vals (ys.map V.str) us → StrsAre us ys
  | [], _, .nil => .nil
  | y :: ys, _, .cons h t => by
    obtain ⟨u, rfl⟩ := h
    exact .cons y u (Jz t)
theorem gj : ∀ (l : List (Str × Tok)), Vals ((l.map (·.1)).map V.str) (strValues l)
  | [] => .nil
  | p :: r => .cons ⟨p.2, rfl⟩ (gj r)
theorem gl {K : PySem.W.Frag} {W : Addr → Prop} {H : Hp} : ∀ (ys : List Str), Reps K W H (ys.map D.str) (ys.map V.str)
  | [] => .nil
  | y :: ys => .cons (.str y) (gl ys)
theorem zfW : MtR X "str.join" (fun x xs H Q => x = .str ⟨#[]⟩ ∧ VR X.K (zb .join0) xs H Q) := by
  rintro pins s σ H x xs v us Q I rx rs ⟨rfl, W, ds, r, wf, hs, hf, q⟩
  obtain ⟨t, rfl⟩ := rx
  replace hf : YJ ds = some r := hf
  unfold YJ at hf
  split at hf
  case h_2 => cases hf
  rename_i l
  rw [jo1] at hf
  obtain ⟨ys, e1, hf⟩ := hf
  split at hf
  case isFalse => cases hf
  rename_i hl
  cases hf
  cases hs with
  | cons h1 t1 =>
    cases t1
    obtain ⟨p, zs, rfl, hp, rp⟩ := h1.lst
    have ez := Jy rp e1
    subst ez
    obtain ⟨u, rfl, ru⟩ := wo rs
    cases ru
    obtain ⟨its, rv, pl, hz⟩ := I.list hp
    refine join_list (ys := ys) pl.isList (by simpa using Jz rv) (by show _ + _ * 0 ≤ _; omega) fun t' k => ?_
    rw [glue_join]
    exact ⟨.str _, H, I.tok k, ⟨t', rfl⟩, q _ H (.refl H) (.val (.str _))⟩
theorem zfX : MtR X "str.split" (fun x xs H Q => xs = [.str ⟨#[10]⟩] ∧ VR X.K (zb .splitN) [x] H Q) := by
  rintro pins s σ H x xs v us Q I rx rs ⟨rfl, W, ds, r, wf, hs, hf, q⟩
  obtain ⟨d, rfl, h1⟩ := YS hs
  replace hf : wP [d] = some r := hf
  unfold wP at hf
  split at hf
  case h_2 => cases hf
  rename_i y z
  cases z
  split at hf
  case isFalse => cases hf
  rename_i hl
  cases hf
  cases h1.str
  obtain ⟨t, rfl⟩ := rx
  obtain ⟨u, rfl, ru⟩ := wo rs
  obtain ⟨t2, rfl⟩ := ru
  have sl := sizeLine_eq
  refine zfV rfl (by omega) fun l k e => ?_
  rw [gi] at e
  have hlen : (yQ y).length ≤ sizeLine := by
    rw [← gi]; have := split_le y ⟨#[10]⟩; omega
  have rv := gj l
  rw [e] at rv
  exact ⟨.ref _, _, I.lnew (t' := k) rv (by rw [List.length_map]; exact hlen), rfl, q _ _ (xR I.fresh _) (Zp I.fresh (gl _))⟩
theorem vv : OpR X (binaryOp .Add) (yj X.K (zb .addS)) := by
  rintro pins s σ H x y v u Q I rx ry ⟨W, ds, r, wf, hs, hf, q⟩
  obtain ⟨d, e, rfl, h1, h2⟩ := yZ hs
  replace hf : YH [d, e] = some r := hf
  unfold YH at hf
  split at hf
  case h_2 => cases hf
  rename_i a b z
  cases z
  split at hf
  case isFalse => cases hf
  rename_i hl
  cases hf
  cases h1.str; cases h2.str
  have sl := sizeLine_eq
  exact zcZ pins s σ H _ _ v u Q I rx ry ⟨a, b, rfl, rfl, by omega, q _ H (.refl H) (.val (.str _))⟩
end
end L2.LW
set_option maxHeartbeats 4000000
namespace L2.LW
open PySem PySem.Spec PySem.W PySem.Calls PyProof.Rows
section
variable {X : Cx} {fn : Nat → List D → Option SV} {fa : Nat → List D → Option Ans} {fuel : Nat} {a b c e : Expr} {ca cb cc ce : E} {pos p : Pos} {x : Str}
theorem JA {j : Nat} {p1 apos cpos : Pos} (he : IE X fn e ce) (hx : x = ⟨#[]⟩) (hst : starEach [e] X.env = (false, eval e X.env) :: starEach [] X.env)
    (hbase : attributeBase (.Constant (.str x) j p1) "join" X.env (eval (.Constant (.str x) j p1) X.env) = eval (.Constant (.str x) j p1) X.env := by rfl) (hline : (apos.endLine == cpos.line) = true := by rfl) :
    IE X fn (.Call (.Attribute (.Constant (.str x) j p1) "join" apos) [e] [] cpos) (.prim .join0 (.cons ce .nil)) :=
  .mk <| (Yw PySem.F.plainAttrs_str PySem.F.slot_str_join PySem.F.type_str_join zfW jg (wB he.v vi hst) hbase (by rw [hst]; rfl) hline hst zo).imp fun σ H Q zz3 => by
    obtain ⟨W, ρ, r, hR, h, q⟩ := zz3
    simp only [xE, yW, yX, jo1, jo2] at h
    obtain ⟨rs, ⟨r1, e1, rs', e3, rfl⟩, e4⟩ := h
    cases e3
    refine ⟨rfl, W, ρ, r1, hR, e1, fun v1 H1 s1 f1 => ⟨by rw [hx], vL hR s1 (.cons f1 .nil) e4 q⟩⟩
theorem JB {j : Nat} {p1 apos cpos : Pos} (he : IE X fn e ce) (hx : x = ⟨#[10]⟩) (hbase : attributeBase e "split" X.env (eval e X.env) = eval e X.env := by rfl) (hline : (apos.endLine == cpos.line) = true := by rfl) :
    IE X fn (.Call (.Attribute e "split" apos) [.Constant (.str x) j p1] [] cpos) (.prim .splitN (.cons ce .nil)) :=
  .mk <| (Yw PySem.F.plainAttrs_str PySem.F.slot_str_split PySem.F.type_str_split zfX he.v (wB jg vi zB) hbase (by rw [zB]; rfl) hline zB zo).imp fun σ H Q zz3 => by
    obtain ⟨W, ρ, r, hR, h, q⟩ := zz3
    simp only [xE, yW, yX, jo1, jo2] at h
    obtain ⟨rs, ⟨r1, e1, rs', e3, rfl⟩, e4⟩ := h
    cases e3
    refine ⟨W, ρ, r1, hR, e1, fun v1 H1 s1 f1 => ?_⟩
    have e5 : wP [zu r1] = some r := e4
    unfold wP at e5
    split at e5
    case h_2 => cases e5
    rename_i y z
    have z1 : zu r1 = .str y := by simpa using z
    have hs := f1.sees
    rw [z1] at hs
    cases hs.str
    exact ⟨rfl, by rw [hx], vL hR s1 (.cons f1 .nil) e4 q⟩
end
theorem gm : ∀ {k n : Nat} {l : List D} {d : D}, (yR n l)[k]? = some d → ∃ x, l[k]? = some x ∧ d = .tup [.int ((n + k : Nat) : Int), x]
  | _, _, [], _, h => by simp [yR] at h
  | 0, n, x :: l, d, h => by
    simp only [yR, List.getElem?_cons_zero, Option.some.injEq] at h
    exact ⟨x, rfl, h.symm⟩
  | k + 1, n, x :: l, d, h => by
    simp only [yR, List.getElem?_cons_succ] at h
    obtain ⟨y, h1, h2⟩ := gm h
    refine ⟨y, by simpa using h1, ?_⟩
    rw [h2]
    congr 3
    omega
theorem gp : ∀ (n : Nat) (l : List D), (yR n l).length = l.length
  | _, [] => rfl
  | n, _ :: l => by simp [yR, gp (n + 1) l]
noncomputable def YE (K : PySem.W.Frag) (J : It) (W : Addr → Prop) (H : Hp) (ds : List D) : Prop :=
  ∀ W' H', Ext W H W' H' → ∀ k : Nat, (k = ds.length → J.stop k H') ∧ ∀ d, ds[k]? = some d → J.go k H' ∧ ∀ x H'', J.yld k H' x H'' → Same H' H'' ∧ Rep K W' H'' d x
section
variable {X : Cx} {fn : Nat → List D → Option SV} {fa : Nat → List D → Option Ans} {fuel : Nat} {e : Expr} {ce : E} {pos p : Pos} {sts : List Stmt} {ss : Ss} {elts : List Expr} {kt : Nat} {pt pos' : Pos}
noncomputable def zfY (K : PySem.W.Frag) (fn : Nat → List D → Option SV) (c : E) : TI := fun σ H R0 => ∃ W ρ r ds, R K W ρ σ H ∧ zf fn c ρ = some r ∧ wQ r = some ds ∧ ∀ J H1, Same H H1 → YE K J W H1 ds → R0 J H1
theorem gq {K : PySem.W.Frag} {W : Addr → Prop} {H : Hp} {xs : List V} {l : List D} {itm : Nat → Option V} {ok : Hp → Prop} {n : Nat} (hn : n = l.length) (hi : ∀ i : Nat, itm i = xs[i]?) (hok : ∀ W' H', Ext W H W' H' → ok H') (hr : ∀ W' H', Ext W H W' H' → Reps K W' H' l xs) : YE K (Jw n itm ok) W H (yR 0 l) := by
  intro W' H' x k
  rw [gp]
  refine ⟨fun z => ⟨by omega, hok W' H' x⟩, fun d hd => ?_⟩
  obtain ⟨y, h1, rfl⟩ := gm hd
  have lt : k < l.length := (List.getElem?_eq_some_iff.mp h1).1
  refine ⟨⟨by omega, hok W' H' x⟩, ?_⟩
  rintro v H'' ⟨q, w, hq, rfl, rfl, hw⟩
  have sm : Same H' (zJ H' q (.tup [.int k, w])) := xR hq _
  refine ⟨sm, ?_⟩
  obtain ⟨w', g1, g2⟩ := (hr W' H' x).get h1
  rw [hi, g1] at hw
  cases hw
  rw [Nat.zero_add]
  exact .tup wm (.cons (.int _) (.cons (g2.ext (.same sm)) .nil))
theorem zfZ (hg : Gl X "enumerate") (hm : X.mg "enumerate" = Option.none) (he : IE X fn e ce) (hst : starEach [e] X.env = [(false, eval e X.env)]) :
    PI X (.Tuple elts kt pt) (.Call (.Name "enumerate" p) [e] [] pos) (zfY X.K fn ce) := by
  intro pins s σ H R0 I ⟨W, ρ, r, ds, hR, h1, h2, q1⟩
  refine wpAny_Call_Name_kw (jh I hg hm PyProof.Rows.boot_enumerate ?_ (by decide) (by decide))
  have hA := (wB he.v vi hst) pos pins s σ H (fun vs H1 => ∃ v, vs = [v] ∧ Same H H1 ∧ Frz X.K W H1 r v) I ⟨W, ρ, r, hR, h1, fun v H1 s1 f1 => ⟨v, rfl, s1, f1⟩⟩
  refine PyProof.Rows.callWith_type1 (zq hA fun us s1 ⟨vs, H1, I1, rv, v, hv, s01, f1⟩ => ?_) hst zo
  subst hv
  obtain ⟨u, rfl, ru⟩ := wo rv
  unfold wQ at h2
  split at h2
  · rename_i l
    cases h2
    cases f1 with
    | @lis d q o hw hH ro =>
      cases ro with
      | @lst xs ds' rp =>
        cases ru
        obtain ⟨its, rv2, pl, hz⟩ := I1.list (SqL.of hH)
        refine call_enumerate_list pl.isList fun h' en li sz kp => ?_
        refine wpAny_pyIter_enum en ?_
        have I2 : Inv X pins σ H1 { s1 with heap := h' } := I1.kept (t' := s1.toks) kp
        refine ⟨s1.heap.objs.size + 1, [s1.heap.objs.size + 1, s1.heap.objs.size], _, _, H1, rfl, I2, zfS (xs := xs) q s1.heap.objs.size (s1.heap.objs.size + 1) (Nat.succ_ne_self _), ⟨⟨_, en⟩, li⟩, fun b hb => ?_, q1 _ H1 s01 (gq (xs := xs) rp.length.symm (fun _ => rfl) (fun W' H' x => .of (x.keep _ _ hH hw)) fun W' H' x => rp.ext x)⟩
        rcases List.mem_cons.mp hb with rfl | hb
        · exact I1.fpOk (Nat.le_succ _) (I1.hok.fresh (Nat.le_succ _))
        · obtain rfl := List.mem_singleton.mp hb
          exact I1.fpOk (Nat.le_refl _) (I1.hok.fresh (Nat.le_refl _))
  · rename_i y ap
    cases h2
    cases f1 with
    | val h =>
      cases h
      obtain ⟨t, rfl⟩ := ru
      refine call_enumerate_str fun h' en li sz kp => ?_
      refine wpAny_pyIter_enum en ?_
      have I2 : Inv X pins σ H1 { s1 with heap := h' } := I1.kept (t' := s1.toks) kp
      have rp : ∀ (W' : Addr → Prop) (H' : Hp), Reps X.K W' H' (xh y) (wZ y) := fun W' H' => by
        unfold xh wZ
        induction y.cps.toList with
        | nil => exact .nil
        | cons c r ih => exact .cons (.str _) ih
      refine ⟨s1.heap.objs.size + 1, [s1.heap.objs.size + 1, s1.heap.objs.size], _, _, H1, rfl, I2, zfT (x := y) (t := t) s1.heap.objs.size (s1.heap.objs.size + 1) (Nat.succ_ne_self _), ⟨⟨_, en⟩, li⟩, fun b hb => ?_, q1 _ H1 s01 (gq (xs := wZ y) (by simp [xh]) (fun _ => rfl) (fun _ _ _ => trivial) fun W' H' x => rp W' H')⟩
      rcases List.mem_cons.mp hb with rfl | hb
      · exact I1.fpOk (Nat.le_succ _) (I1.hok.fresh (Nat.le_succ _))
      · obtain rfl := List.mem_singleton.mp hb
        exact I1.fpOk (Nat.le_refl _) (I1.hok.fresh (Nat.le_refl _))
  · cases h2
theorem zf0 {K : PySem.W.Frag} {J : It} {ds : List D} {i j : Nat} {ex : LW.Env → Option (Fl × LW.Env)} {W : Addr → Prop} {ρ : LW.Env} {σ : St} {H : Hp} {x : Fl × LW.Env} {D0 : Ends} (hR : R K W ρ σ H) (hfi : ¬ yY ρ i) (hfj : ¬ yY ρ j) (hy : YE K J W H ds)
    (hx : xB i j ex ds ρ = some x) (q : ∀ W' σ' H', SPost K W ρ σ H W' x.2 σ' H' → FlOk K W ρ σ W' x.2 σ' H' D0 x.1) :
    ∃ Wv : Nat → Nat → St → Hp → Prop, (∃ m, Wv 0 m σ H) ∧ ∀ k m σ' H', Wv k m σ' H' →
      (J.stop k H' ∧ D0.nx σ' H') ∨ (J.go k H' ∧ ∃ N : St → Hp → Prop, (∀ σ2 H2, N σ2 H2 → ∃ m', m' < m ∧ Wv (k + 1) m' σ2 H2) ∧ ∀ v H2, J.yld k H' v H2 → QU K 2 (Vl (jR i) (Vl (jR j) QS)) v σ' H2 fun σ2 H2 => jt K ex { D0 with nx := N, ct := N, bk := D0.nx } σ2 H2) := by
  refine ⟨fun k m σ' H' => m = ds.length - k ∧ k ≤ ds.length ∧ ∃ W' ρ', SPost K W ρ σ H W' ρ' σ' H' ∧ xB i j ex (ds.drop k) ρ' = some x, ⟨_, rfl, Nat.zero_le _, W, ρ, .same hR (.refl H), hx⟩, ?_⟩
  rintro k m σ' H' ⟨rfl, hk, W', ρ', p0, hf⟩
  obtain ⟨hstop, hgo⟩ := hy W' H' (p0.ext hR) k
  by_cases hlt : k < ds.length
  · have hd : ds[k]? = some ds[k] := by simp [hlt]
    obtain ⟨g1, g2⟩ := hgo _ hd
    rw [Jh hd] at hf
    generalize ds[k] = dk at hf g2
    unfold xB at hf
    split at hf
    · rename_i z; cases z
    · rename_i a b r z
      injection z with z1 z2
      subst z1 z2
      rw [jo1] at hf
      obtain ⟨⟨fl, ρ2⟩, e1, e2⟩ := hf
      refine .inr ⟨g1, fun σ2 H2 => (ds.length - (k + 1)) = ds.length - (k + 1) ∧ k + 1 ≤ ds.length ∧ ∃ W' ρ', SPost K W ρ σ H W' ρ' σ2 H2 ∧ xB i j ex (ds.drop (k + 1)) ρ' = some x, fun σ2 H2 h => ⟨_, by omega, h⟩, fun v H2 y => ?_⟩
      obtain ⟨sm, rv⟩ := g2 v H2 y
      have p := p0.trans (SPost.same p0.r sm) hR
      cases rv with
      | tup hH rp =>
        cases rp with
        | cons ra rp =>
          cases rp with
          | cons rb rp =>
            cases rp
            refine ⟨_, _, rfl, .of hH, rfl, _, _, rfl, _, _, rfl, rfl, ?_⟩
            have p1 := Xb (i := i) p.r (.refl H2) ra fun z => hfi ((p.io i).1.mp z)
            have p2 := Xb (i := j) p1.r (.refl H2) rb fun z => hfj ((p.io j).1.mp ((p1.io j).1.mp z))
            have p01 := (p.trans p1 hR).trans p2 hR
            refine ⟨W', _, (fl, ρ2), p2.r, e1, fun W3 σ3 H3 p3 => ?_⟩
            have p03 := p01.trans p3 hR
            cases fl with
            | nx => exact ⟨rfl, hlt, W3, ρ2, p03, e2⟩
            | ct => exact ⟨rfl, hlt, W3, ρ2, p03, e2⟩
            | br => cases e2; exact q W3 σ3 H3 p03
            | rt r => cases e2; exact fun v hv => q W3 σ3 H3 p03 v (hv.back p01)
    · cases hf
  · have e : k = ds.length := by omega
    rw [List.drop_of_length_le (by omega), xB] at hf
    cases hf
    exact .inl ⟨hstop e, q W' σ' H' p0⟩
theorem gr (i j : Nat) {x y : Str} {px py : Pos} (hp : PassesOwn (model X.prog X.w) X.A X.env X.xe) (hc : X.calm = true) (hN : X.N.Nodup) (hi : X.N[i]? = some x) (hx : wn X.env.scope x) (hj : X.N[j]? = some y) (hy : wn X.env.scope y)
    (hg : Gl X "enumerate") (hm : X.mg "enumerate" = Option.none) (he : IE X (zA fa) e ce) (hst : starEach [e] X.env = [(false, eval e X.env)]) (hb : ISs X (zv fa fuel ss) sts)
    (hf : X.fn x = true ∨ X.env.scope.names.lookup x = some .local := by first | exact .inl rfl | exact .inr rfl | assumption) (hf2 : X.fn y = true ∨ X.env.scope.names.lookup y = some .local := by first | exact .inl rfl | exact .inr rfl | assumption)
    (hfo : ∀ z, foldedSetIterable (.Call (.Name "enumerate" p) [e] [] pos) X.env z = pure z := by intro _; rfl) :
    IS X (zH fa fuel (.forE i j ce ss)) (.For (.Tuple [.Name x px, .Name y py] kt pt) (.Call (.Name "enumerate" p) [e] [] pos) sts [] pos') :=
  .mk <| (QX hp hc (zfZ hg hm he hst) (zcn hc (QT (Yp hN hi hx hf) (QT (Yp hN hj hy hf2) zcm))) hb.h hfo).imp fun D0 σ H zz3 => by
    obtain ⟨W, ρ, y, hR, hy, q⟩ := zz3
    simp only [zeD, jo1] at hy
    obtain ⟨r, e1, e2⟩ := hy
    split at e2
    · cases e2
    · rename_i hl
      simp only [Bool.not_eq_true, Bool.or_eq_false_iff, Bool.not_eq_false'] at hl
      rw [jo1] at e2
      obtain ⟨ds, e3, e4⟩ := e2
      refine ⟨W, ρ, r, ds, hR, e1, e3, fun J H1 s1 hyl => ?_⟩
      have p1 := SPost.same hR s1
      exact zf0 p1.r (Zn hl.1) (Zn hl.2) hyl e4 fun W' σ' H' p => FlOk.back p1 (q W' σ' H' (p1.trans p hR))
end
end L2.LW
set_option maxHeartbeats 4000000
namespace L2.LW
open PySem PySem.Spec PySem.W PySem.Calls PyProof.Rows Builtin Builtin.ObjectAttr Builtin.Getset_descriptor
noncomputable def Lies (x D : Addr) (h : Heap) : Prop := ∃ o : Obj, h.get? x = some o ∧ o.cls = .ref D
theorem Lies.ty {x D : Addr} {M : Model} {h : Heap} (I : Lies x D h) : Looks M h (typeOf (.ref x)) (.ref D) := by
  obtain ⟨o, e1, e2⟩ := I
  exact e2 ▸ (Looks.ld e1).andThen .now
section
variable {prog : Program} {w : World} {A : Around} {E : Value → Shared → Prop} {s : Shared} {K : PySem.W.Frag} {x C D : Addr}
structure Asks (K : PySem.W.Frag) (D : Addr) : Prop where
  g : findIn K (.ref D) "__getattribute__" = some (some (.builtin "BaseException.__getattribute__"))
  h : findIn K (.ref D) "__getattr__" = some Option.none
  c : (clsIn K D).isSome = true
  a : findIn K (.ref D) "__class__" = some (some (.builtin "object.__class__"))
  n : specialIn K (.builtin "object.__class__") "__get__" = some (some (.builtin "getset_descriptor.__get__"))
  t : takesIn K (.builtin "object.__class__") = some true
  m : mroIn K D (.type "object") = some true
  e : mroIn K D (.type "BaseException") = some true
theorem Asks.find (Z : Asks K D) {M : Model} {h : Heap} (X : K.In h) : Looks M h (Builtin.ObjectAttr.find (.ref x) (.ref D) "__class__") (.bind (.builtin "getset_descriptor.__get__") (.builtin "object.__class__")) :=
  (looks_findIn X Z.a).andThen ((looks_specialIn X Z.n).andThen ((show Looks M h (dataDescriptor? (some (.builtin "object.__class__")) (some (.builtin "getset_descriptor.__get__"))) (some _) from (looks_takesIn X Z.t).andThen .now).andThen (Looks.tag .now)))
theorem zf1 : splitId "BaseException.__getattribute__" = some ("BaseException", "__getattribute__") := by decide +kernel
theorem gs : builtinKind "BaseException.__getattribute__" = some .slot := by decide +kernel
theorem zf2 : plainId "BaseException.__getattribute__" = true := by decide +kernel
theorem zf3 : entryFor table "BaseException.__getattribute__" = some Builtin.«object.__getattribute__» :=
  entryFor_alias (id' := "object.__getattribute__") (by kernel_rfl) (by first | rfl | decide +kernel) (by decide +kernel) (by kernel_rfl)
theorem zf4 (a b : Value) : argsOk "BaseException.__getattribute__" ⟨[a, b], []⟩ := by unfold argsOk; kernel_rfl
theorem zf5 (u : Value) : bindSpecial (.builtin "BaseException.__getattribute__") u = pure (.builtin "BaseException.__getattribute__", [u]) := by
  have n1 : withoutEnding? "BaseException.__getattribute__" "#opaque" = Option.none := by decide +kernel
  have n2 : withoutEnding? "BaseException.__getattribute__" "#data" = Option.none := by decide +kernel
  simp only [bindSpecial, typeOf, builtinType, n1, n2, gs]
  rfl
theorem Asks.check (Z : Asks K D) {M : Model} {zX : List Value} {Q : Unit → Shared → Prop} (X : K.In s.heap) (I : Lies x D s.heap) (ok : argsOk "BaseException.__getattribute__" ⟨.ref x :: zX, []⟩) (q : Q () s) :
    wpAny M A (checkBuiltinCall "BaseException.__getattribute__" ⟨.ref x :: zX, []⟩) Q E s := by
  obtain ⟨hp, gn, dw, tt, os⟩ := s
  have T0 : Looks M hp (isInstance (.ref x) (.type "BaseException")) true := (Lies.ty (M := M) I).andThen (looks_mroIn X Z.e)
  simp only [checkBuiltinCall, gs, zf1]
  refine wpAny_bind (T0.at ?_)
  simp only [Bool.not_true, Bool.false_eq_true, if_false]
  cases hs : Manifest.signature? "BaseException.__getattribute__" with
  | none => exact wpAny_pure q
  | some sg =>
    simp only [argsOk, hs] at ok
    have ok2 : Bind.checkArgs "BaseException.__getattribute__" sg ⟨.ref x :: zX, []⟩ = pure () := ok
    show wpAny M A (Bind.checkArgs _ sg _) Q E _
    rw [ok2]
    exact wpAny_pure q
theorem Asks.got (Z : Asks K D) {tp : Value} {R : Result → Shared → Prop} (X : K.In s.heap) (I : Lies x D s.heap) (q : R (.ok (.ret (.ref D))) s) :
    codeAny (model prog w) A (.call (.builtin "getset_descriptor.__get__") ⟨[.builtin "object.__class__", .ref x, tp], []⟩) R s := by
  obtain ⟨hp, gn, dw, tt, os⟩ := s
  have T0 : Looks (model prog w) hp (typeOf (.ref x)) (.ref D) := Lies.ty I
  have T1 := looks_mroIn (M := model prog w) X Z.m
  refine codeAny_call_builtin KF.slot_gs.plain KF.entry_gs (KF.slot_gs.check _ _ _ _ _ _ _ _ KF.type_class (KF.args_gs _ _ _) ?_)
  unfold Builtin.«getset_descriptor.__get__» descrGet
  rw [dga_obj]
  refine wpAny_bind (wpAny_pure ?_)
  unfold descrGetter descrCheckInstance descrNameAndClass isInstance
  simp only [KF.owner_class]
  repeat lk
  refine ⟨Code.quiet_builtin _ (by decide +kernel), codeAny_builtin KF.entry_class ?_⟩
  unfold Builtin.«object.__class__» shownTypeOf
  repeat lk
  exact q
theorem Asks.entry (Z : Asks K D) {tk : Tok} {Q : Fin → Shared → Prop} (X : K.In s.heap) (I : Lies x D s.heap) (q : Q (.done (.ret (.ref D))) s) :
    wpAny (model prog w) A (Builtin.«object.__getattribute__» ⟨[.ref x, .str "__class__" tk], []⟩) Q E s := by
  obtain ⟨hp, gn, dw, tt, os⟩ := s
  have T0 : Looks (model prog w) hp (typeOf (.ref x)) (.ref D) := Lies.ty I
  have T1 := Z.find (x := x) (M := model prog w) X
  refine wpAny_bind (wpAny_pure (wpAny_bind (wpAny_pure (wpAny_bind (T0.at (wpAny_bind (T1.at ?_)))))))
  show wpAny _ _ (holding [.builtin "object.__class__"] (call (.builtin "getset_descriptor.__get__") [.builtin "object.__class__", .ref x, .ref D]) >>= ret) _ _ _
  exact wpAny_bind (wpAny_holding (wpAny_call (Z.got X I (wpAny_pure q))))
theorem Asks.attr (Z : Asks K D) {Q : Option Value → Shared → Prop} (X : K.In s.heap) (I : Lies x D s.heap) (q : Q (some (.ref D)) { s with toks := s.toks + 1 }) : wpAny (model prog w) A (getAttr? (.ref x) "__class__") Q E s := by
  obtain ⟨hp, gn, dw, tt, os⟩ := s
  have T0 : Looks (model prog w) hp (typeOf (.ref x)) (.ref D) := Lies.ty I
  have T1 := looks_findIn (M := model prog w) X Z.g
  have T2 := looks_findIn (M := model prog w) X Z.h
  unfold getAttr? getAttrBy? getAttrBy
  refine wpAny_bind (wpAny_mkText (wpAny_bind (wpAny_attempt (wpAny_holding (wpAny_bind (T0.at (wpAny_bind (T1.at ?_))))))))
  show wpAny _ _ (getAttrByItsOwn _ _ _ _ _ _) _ _ _
  unfold getAttrByItsOwn hookBefore
  refine wpAny_bind (T2.at ?_)
  refine wpAny_bind (wpAny_attempt (wpAny_holding ?_))
  show wpAny _ _ (bindSpecial (.builtin "BaseException.__getattribute__") (.ref x) >>= _) _ _ _
  refine wpAny_bind (wpAny_of_eq (zf5 _) ?_)
  refine wpAny_call (codeAny_call_builtin zf2 zf3 (Z.check (s := ⟨hp, gn, dw, tt + 1, os⟩) X I (zf4 _ _) (Z.entry (s := ⟨hp, gn, dw, tt + 1, os⟩) X I ?_)))
  exact wpAny_mono (handed_on (Q := fun v s' => v = .ref D ∧ s' = ⟨hp, gn, dw, tt + 1, os⟩) rfl ⟨rfl, rfl⟩) (fun v s' z => by obtain ⟨rfl, rfl⟩ := z; exact wpAny_pure q) fun _ _ z => z
theorem gu {M : Model} {h : Heap} {B : Addr} (X : K.In h) (e : (clsIn K B).isSome = true) : Looks M h (isType (.ref B)) true := by
  unfold clsIn at e
  split at e
  case h_2 => cases e
  rename_i ho
  intro A1 Q1 E1 s1 k q
  unfold isType loadHead
  exact wpAny_bind (wpAny_loadPart (k _ _ (X _ _ ho)) (wpAny_pure q))
theorem Asks.nested (Z : Asks K D) {c : Value} {dep : Int} {tk : Tok} {Q : Fin → Shared → Prop} (X : K.In s.heap) (I : Lies x D s.heap) (ty : Looks (model prog w) s.heap (typeOf c) (.type "type")) (it : Looks (model prog w) s.heap (isType c) true)
    (ne : (Value.ref D == c) = false) (sb : Looks (model prog w) s.heap (isSubtype (.ref D) c) false) (q : Q (.done (.ret (.bool false))) { s with toks := s.toks + 1 }) :
    wpAny (model prog w) A (Builtin.«isinstance.nested» ⟨[.ref x, c, .int dep tk], []⟩) Q E s := by
  obtain ⟨hp, gn, dw, tt, os⟩ := s
  have T0 : Looks (model prog w) hp (typeOf (.ref x)) (.ref D) := Lies.ty I
  have TD : Looks (model prog w) hp (isType (.ref D)) true := gu X Z.c
  have TI : Looks (model prog w) hp (isInstance (.ref x) c) false := T0.andThen sb
  unfold Builtin.«isinstance.nested»
  refine wpAny_bind (T0.at ?_)
  rw [if_neg (by rw [ne]; decide)]
  refine wpAny_bind (ty.at ?_)
  rw [if_pos (by decide)]
  k_delta "plainIsInstance"
  refine wpAny_bind (wpAny_bind (it.at ?_))
  simp only [Bool.not_true, Bool.false_eq_true, if_false]
  refine wpAny_bind (TI.at ?_)
  simp only [Bool.false_eq_true, if_false]
  refine wpAny_bind (Z.attr X I ?_)
  refine wpAny_bind (TD.at ?_)
  simp only [Bool.not_true, Bool.false_eq_true, if_false]
  refine wpAny_bind (wpAny_rule ?_)
  refine sb.at ?_
  first
    | exact wpAny_pure q
    | exact wpAny_pure (wpAny_pure q)
    | exact wpAny_bind (wpAny_pure (wpAny_pure q))
theorem Asks.not (Z : Asks K D) {Q : Value → Shared → Prop} (X : K.In s.heap) (I : Lies x D s.heap) (e : kin_not K D C = true) (q : Q (.bool false) { s with toks := s.toks + 1 }) : wpAny (model prog w) A (call (.builtin "isinstance") [.ref x, .ref C]) Q E s := by
  unfold kin_not at e
  simp only [Bool.and_eq_true, decide_eq_true_eq, beq_iff_eq] at e
  obtain ⟨⟨⟨e0, e1⟩, e2⟩, e3⟩ := e
  refine call_isinstance (S := fun _ R s => (K.In s.heap ∧ Lies x D s.heap) ∧ R (.ok (.ret (.bool false))) { s with toks := s.toks + 1 }) (fun _ _ _ _ _ hs => isinstance_outer (Z.nested hs.1.1 hs.1.2 (looks_typeIn hs.1.1 e2) (gu hs.1.1 e1) ?_ (looks_subIn hs.1.1 e3) hs.2) (by intro z; cases z)) ⟨⟨X, I⟩, q⟩
  exact Bool.eq_false_iff.mpr fun z => e0 (Value.ref.inj (beq_iff_eq.mp z))
end
noncomputable def zf6 (k : Nat) (a : Addr) (b : Bool) : TE := fun σ H Q => σ[k]? = some (some (.ref a)) ∧ Q (.bl b) H
end L2.LW
set_option maxHeartbeats 4000000
namespace L2.LW
open PySem PySem.Spec PySem.W PySem.Calls PyProof.Rows
noncomputable def zf7 (K : PySem.W.Frag) (D : Addr) : Bool := findIn K (.ref D) "__getattribute__" == some (some (.builtin "BaseException.__getattribute__")) && findIn K (.ref D) "__getattr__" == some Option.none && (clsIn K D).isSome && findIn K (.ref D) "__class__" == some (some (.builtin "object.__class__")) && specialIn K (.builtin "object.__class__") "__get__" == some (some (.builtin "getset_descriptor.__get__")) &&
  takesIn K (.builtin "object.__class__") == some true && mroIn K D (.type "object") == some true && mroIn K D (.type "BaseException") == some true
noncomputable def apart (K : PySem.W.Frag) (CL : Nat → Addr) (cs : List Nat) : Bool := cs.all fun c => zf7 K (CL c) && cs.all fun d => c == d || kin_not K (CL c) (CL d)
end L2.LW
set_option maxHeartbeats 4000000
set_option maxHeartbeats 4000000
set_option maxHeartbeats 4000000
namespace L2
open PySem PySem.Spec PyProof.Rows
section
variable {X : Cx} {pins : List (Addr × Obj)} {σ : St} {H : Hp} {s : Shared} {a : Addr} {kvs : List (zG × V)}
theorem Inv.still (I : Inv X pins σ H s) (e : H a = some (.dK kvs)) : ∃ o es ep, o.data = .dict es ep ∧ Inv X pins σ (zJ H a (.frz o (.dK kvs))) s := by
  have ok : ObjOk X.prog X.w H s.heap a (.dK kvs) := I.hok a _ e
  obtain ⟨h1, h2, vs, h3, o, es, ep, g1, g2, g3, g4⟩ := id ok
  exact ⟨o, es, ep, g3, I.write (x := a) (e := a) (o := .frz o (.dK kvs)) (h' := s.heap) (t' := s.toks) (by rw [e]; exact True.intro) (.inl rfl) (fun b u _ q => q) ⟨o, g1⟩ ⟨g1, h1, h2, vs, h3, o, es, ep, g1, g2, g3, g4⟩⟩
theorem Inv.loose {o : Obj} (I : Inv X pins σ H s) (e : H a = some (.frz o (.dK kvs))) (n : ∀ o u, X.H₀ a ≠ some (.frz o u)) : Inv X pins σ (zJ H a (.dK kvs)) s := by
  have ne : ∀ b, H b = none → b ≠ a := fun b hb z => by rw [z, e] at hb; cases hb
  refine { I with base := ⟨I.base.keep, I.base.slot, fun b ob q n' hx => ?_, I.base.there, fun b xs q => ?_, fun b ob u q => ?_, fun b ps q => ?_⟩, free := ?_, freeC := ?_, pin := ?_, hok := ?_ }
  · have := I.base.free b ob q n' hx
    rw [zL (ne b this)]; exact this
  · have := I.base.tups b xs q
    rw [zL (fun z => by rw [z, e] at this; cases this)]; exact this
  · have := I.base.frzs b ob u q
    rw [zL (fun z => n ob u (by rw [← z]; exact q))]; exact this
  · obtain ⟨m, z⟩ := I.base.tbls b ps q
    exact ⟨m, by rw [zL (fun y => by rw [y, e] at z; cases z)]; exact z⟩
  · rw [zL (ne _ I.free)]; exact I.free
  · intro x c h
    have := I.freeC x c h
    rw [zL (ne _ this)]; exact this
  · intro p hp
    obtain ⟨h1, h2, h3⟩ := I.pin p hp
    exact ⟨h1, by rw [zL (ne _ h2)]; exact h2, h3⟩
  · intro b u q
    have ho : ∀ c y, H c = some (.own y) → zJ H a (.dK kvs) c = some (.own y) := fun c y hc => by
      rw [zL (fun z => by rw [z, e] at hc; cases hc)]; exact hc
    have ht : ∀ c xs, H c = some (.tup xs) → zJ H a (.dK kvs) c = some (.tup xs) := fun c xs hc => by
      rw [zL (fun z => by rw [z, e] at hc; cases hc)]; exact hc
    by_cases hb : b = a
    · subst hb
      rw [wm] at q
      cases q
      obtain ⟨_, ok⟩ := (show ObjOk X.prog X.w H s.heap b (.frz o (.dK kvs)) from I.hok b _ e)
      exact ok.stay (fun _ _ _ q => q) (fun c hc => ho c _ hc) fun c xs hc => ht c xs hc
    · rw [zL hb] at q
      exact (I.hok b u q).stay (fun _ _ _ q => q) (fun c hc => ho c _ hc) fun c xs hc => ht c xs hc
end
end L2
set_option maxHeartbeats 4000000
set_option maxRecDepth 100000
set_option maxHeartbeats 4000000
namespace L2.LW
open PySem PySem.Spec PySem.W PySem.Calls PyProof.Rows
noncomputable def JC (X : Cx) (scope : Scope) (x y : Str) (s₃ : Shared) (H₃ : Hp) (fp : List Addr) (pins : List (Addr × Obj)) : Cx := { yh X scope x s₃ H₃ fp pins with N := x :: y :: X.N }
structure CompSc2 (X : Cx) (scope : Scope) (x y : Str) : Prop where
  one : CompSc X scope x
  nx : wW x X.N = X.N
  lx : scope.names.lookup x = some .local
  ly : scope.names.lookup y = some .local
  nd2 : (x :: y :: X.N).Nodup
section
variable {X : Cx} {scope : Scope} {x y : Str} {s₃ : Shared} {H₃ : Hp} {fp : List Addr} {pins ps : List (Addr × Obj)} {σ : St} {a b : Option V} {H : Hp} {s : Shared}
theorem CompSc2.locX (S : CompSc2 X scope x y) : wn (JC X scope x y s₃ H₃ fp pins).env.scope x := .inl (lookup_relabel_local S.lx)
theorem CompSc2.fnX (S : CompSc2 X scope x y) : (JC X scope x y s₃ H₃ fp pins).fn x = true ∨ (JC X scope x y s₃ H₃ fp pins).env.scope.names.lookup x = some .local := .inr (lookup_relabel_local S.lx)
end
end L2.LW
set_option maxHeartbeats 4000000
set_option maxRecDepth 100000
set_option maxHeartbeats 4000000
namespace L2.LW
open PySem PySem.Spec PySem.W PySem.Calls PyProof.Rows
open PySem.Builtin.Str (occurrences strSliceIndices glued)
section
variable {X : Cx} {fn : Nat → List D → Option SV} {a b e : Expr} {ca cb ce : E} {pos p : Pos}
theorem zf8 : IxR X (yj X.K (zb .idxS)) := by
  rintro value slice pins s σ H x y v u Q I rx ry ⟨W, ds, r, wf, hs, hf, q⟩ hsu
  obtain ⟨d, e, rfl, h1, h2⟩ := yZ hs
  replace hf : Ze [d, e] = some r := hf
  unfold Ze at hf
  split at hf
  case h_2 => cases hf
  rename_i z i zz
  cases zz
  split at hf
  case isFalse => cases hf
  rename_i hi
  rw [jo2] at hf
  obtain ⟨c, hc, rfl⟩ := hf
  cases h1.str; cases h2.int
  have sl := sizeLine_eq
  refine zdq value slice pins s σ H _ _ v u Q I rx ry ⟨z, i, c, rfl, rfl, by omega, ?_, q _ H (.refl H) (.val (.str _))⟩ hsu
  obtain ⟨n, rfl⟩ := Int.eq_ofNat_of_zero_le hi.1
  refine L2.atI_nat ?_
  rw [Array.getElem?_toList]; simpa using hc
theorem JD (ha : IE X fn a ca) (hb : IE X fn b cb) (hs : Vs b) : IE X fn (.Subscript a b pos) (.prim .idxS (.cons ca (.cons cb .nil))) :=
  .mk <| (kA zf8 ha.v hb.v hs).imp fun σ H Q ⟨W, ρ, r, hR, he, q⟩ => Zr hR he q
theorem gv : SlR X (fun x lo hi H Q => ∃ z, x = .str z ∧ z.length ≤ sizeLine ∧ Q (.str (Txt.slice z lo hi)) H) := by
  intro pins s σ H x v vl vu lo hi sl Q I rx hs pl pu h
  obtain ⟨z, rfl, hz, q⟩ := h
  obtain ⟨t, rfl⟩ := rx
  refine ⟨"str", _, PySem.F.slot_str_getitem.lookup, typeIs_str _ _ _, ?_⟩
  cases pl with
  | none =>
    cases pu with
    | none => exact wpAny_getItem_str_slice (l := Option.none) (u := Option.none) (st := Option.none) hs rfl (post_val_or_str ⟨Nat.le_trans (Txt.slice_le z _ _) hz, fun t' k => ⟨.str _, H, I.tok k, ⟨t', rfl⟩, q⟩⟩)
    | int j uj => exact wpAny_getItem_str_slice (l := Option.none) (u := some (j, uj)) (st := Option.none) hs rfl (post_val_or_str ⟨Nat.le_trans (Txt.slice_le z _ _) hz, fun t' k => ⟨.str _, H, I.tok k, ⟨t', rfl⟩, q⟩⟩)
  | int i ui =>
    cases pu with
    | none => exact wpAny_getItem_str_slice (l := some (i, ui)) (u := Option.none) (st := Option.none) hs rfl (post_val_or_str ⟨Nat.le_trans (Txt.slice_le z _ _) hz, fun t' k => ⟨.str _, H, I.tok k, ⟨t', rfl⟩, q⟩⟩)
    | int j uj => exact wpAny_getItem_str_slice (l := some (i, ui)) (u := some (j, uj)) (st := Option.none) hs rfl (post_val_or_str ⟨Nat.le_trans (Txt.slice_le z _ _) hz, fun t' k => ⟨.str _, H, I.tok k, ⟨t', rfl⟩, q⟩⟩)
theorem JE (x : Str) {lo hi : Option Int} {a b : Nat} (e : strSliceIndices lo hi 1 x.length = strSliceIndices (some (a : Int)) (some (b : Int)) 1 x.length) (hab : a ≤ b) (hb : b ≤ x.length) : Txt.slice x lo hi = ⟨((x.cps.toList.drop a).take (b - a)).toArray⟩ := by
  unfold Txt.slice
  rw [e]
  split
  · rename_i h
    have h : (strSliceIndices (some (a : Int)) (some (b : Int)) 1 x.length).length = x.length := by simpa using h
    rw [PySem.StrLaws.strSliceIndices_plain hab hb] at h
    simp at h
    have ha : a = 0 := by omega
    have hb' : b = x.cps.toList.length := by show b = x.cps.toList.length; rw [Array.length_toList]; show b = x.length; omega
    subst ha
    rw [List.drop_zero, Nat.sub_zero, hb', List.take_length]
  · rw [PySem.StrLaws.sliced_plain x hab hb]
theorem gw (x : Str) (k : Nat) : Txt.slice x Option.none (some (k : Int)) = ⟨(x.cps.toList.take k).toArray⟩ := by
  by_cases h : k ≤ x.length
  · rw [JE x (a := 0) (b := k) (PySem.StrLaws.sliceIdx_none_lo _ _) (Nat.zero_le _) h, List.drop_zero, Nat.sub_zero]
  · have e := sliceIdx_hi_beyond x.length (j := (k : Int)) (by omega)
    rw [JE x (a := 0) (b := x.length) (e.trans (PySem.StrLaws.sliceIdx_none_lo _ _)) (Nat.zero_le _) (Nat.le_refl _), List.drop_zero, Nat.sub_zero]
    have l : x.cps.toList.length = x.length := Array.length_toList
    rw [List.take_of_length_le (by omega), List.take_of_length_le (by omega)]
theorem zf9 (x : Str) (k : Nat) : Txt.slice x (some (k : Int)) Option.none = ⟨(x.cps.toList.drop k).toArray⟩ := by
  have l : x.cps.toList.length = x.length := Array.length_toList
  by_cases h : k ≤ x.length
  · rw [JE x (a := k) (b := x.length) (PySem.StrLaws.sliceIdx_none_hi _ _) h (Nat.le_refl _), List.take_of_length_le (by rw [List.length_drop]; omega)]
  · rw [slice_from_beyond (by omega), List.drop_of_length_le (by omega)]
theorem zga (x : Str) : Txt.slice x Option.none (some (-1)) = ⟨(x.cps.toList.take (x.length - 1)).toArray⟩ := by
  rw [slice_to_neg (by decide)]
  have e : max 0 ((x.length : Int) + -1) = ((x.length - 1 : Nat) : Int) := by omega
  rw [e, gw]
theorem Xl (ha : IE X fn a ca) (hb : IE X fn b cb) : IE X fn (.Subscript a (.Slice Option.none (some b) Option.none p) pos) (.prim .cutTS (.cons ca (.cons cb .nil))) :=
  .mk <| (Yv gv ha.v Yt (Yu hb.v)).imp fun σ H Q zz3 => by
    obtain ⟨W, ρ, r, hR, he, q⟩ := zz3
    simp only [xE, yW, yX, jo1, jo2] at he
    obtain ⟨rs, ⟨r1, e1, rs', ⟨r2, e2, rs'', e3, rfl⟩, rfl⟩, e4⟩ := he
    cases e3
    refine ⟨W, ρ, r1, hR, e1, fun v1 H1 s1 f1 => ⟨W, ρ, r2, hR.same s1, e2, fun v2 H2 s2 f2 => ?_⟩⟩
    replace e4 : vH [zu r1, zu r2] = some r := e4
    unfold vH at e4
    split at e4
    case h_2 => cases e4
    rename_i x k z
    have h1 := (f1.same s2).sees
    have h2 := f2.sees
    injection z with z1 z2
    injection z2 with z2 _
    rw [z1] at h1
    rw [z2] at h2
    split at e4
    case isFalse => cases e4
    rename_i hk
    cases e4
    cases h1.str; cases h2.int
    have sl := sizeLine_eq
    refine ⟨k, rfl, x, rfl, by omega, ?_⟩
    have e : Txt.slice x Option.none (some k) = ⟨(x.cps.toList.take (if k = -1 then x.length - 1 else k.toNat)).toArray⟩ := by
      by_cases z : k = -1
      · rw [z, zga]; rfl
      · obtain ⟨n, rfl⟩ := Int.eq_ofNat_of_zero_le (hk.2.resolve_right z)
        rw [gw, if_neg z, Int.toNat_natCast]
    rw [e]
    exact q _ _ (s1.trans s2) (.val (.str _))
theorem JF (ha : IE X fn a ca) (hb : IE X fn b cb) : IE X fn (.Subscript a (.Slice (some b) Option.none Option.none p) pos) (.prim .cutFS (.cons ca (.cons cb .nil))) :=
  .mk <| (Yv gv ha.v (Yu hb.v) Yt).imp fun σ H Q zz3 => by
    obtain ⟨W, ρ, r, hR, he, q⟩ := zz3
    simp only [xE, yW, yX, jo1, jo2] at he
    obtain ⟨rs, ⟨r1, e1, rs', ⟨r2, e2, rs'', e3, rfl⟩, rfl⟩, e4⟩ := he
    cases e3
    refine ⟨W, ρ, r1, hR, e1, fun v1 H1 s1 f1 => ⟨W, ρ, r2, hR.same s1, e2, fun v2 H2 s2 f2 => ?_⟩⟩
    replace e4 : Zf [zu r1, zu r2] = some r := e4
    unfold Zf at e4
    split at e4
    case h_2 => cases e4
    rename_i x k z
    have h1 := (f1.same s2).sees
    have h2 := f2.sees
    injection z with z1 z2
    injection z2 with z2 _
    rw [z1] at h1
    rw [z2] at h2
    split at e4
    case isFalse => cases e4
    rename_i hk
    cases e4
    cases h1.str; cases h2.int
    have sl := sizeLine_eq
    refine ⟨k, rfl, x, rfl, by omega, ?_⟩
    obtain ⟨n, rfl⟩ := Int.eq_ofNat_of_zero_le hk.2
    rw [zf9]
    exact q _ _ (s1.trans s2) (.val (.str _))
theorem gx (ha : IE X fn a ca) (hb : IE X fn b cb) : IE X fn (.Subscript a (.Slice (some b) Option.none Option.none p) pos) (.prim .cutFL (.cons ca (.cons cb .nil))) :=
  .mk <| (Yv kB ha.v (Yu hb.v) Yt).imp fun σ H Q zz3 => by
    obtain ⟨W, ρ, r, hR, he, q⟩ := zz3
    simp only [xE, yW, yX, jo1, jo2] at he
    obtain ⟨rs, ⟨r1, e1, rs', ⟨r2, e2, rs'', e3, rfl⟩, rfl⟩, e4⟩ := he
    cases e3
    refine ⟨W, ρ, r1, hR, e1, fun v1 H1 s1 f1 => ⟨W, ρ, r2, hR.same s1, e2, fun v2 H2 s2 f2 => ?_⟩⟩
    replace e4 : Zg [zu r1, zu r2] = some r := e4
    unfold Zg at e4
    split at e4
    case h_2 => cases e4
    rename_i l k z
    have h1 := (f1.same s2).sees
    have h2 := f2.sees
    injection z with z1 z2
    injection z2 with z2 _
    rw [z1] at h1
    rw [z2] at h2
    split at e4
    case isFalse => cases e4
    rename_i hk
    cases e4
    obtain ⟨p, xs, rfl, hp, rp⟩ := h1.lst
    cases h2.int
    refine ⟨k, rfl, p, xs, rfl, hp, fun p' hp' => ?_⟩
    rw [zfE xs k hk]
    have s12 := s1.trans s2
    exact q _ _ (s12.trans (xR hp' _)) ((Zp hp' (rp.drop _)).back s12)
theorem zgb (ys : List Str) : Txt.join ⟨#[10]⟩ ys = ⟨(vn ys).toArray⟩ := by
  unfold Txt.join glued
  have key : ∀ (l : List Str) (acc : Array Nat), l.foldl (fun acc p => acc ++ (⟨#[10]⟩ : Str).cps ++ p.cps) acc = acc ++ (l.flatMap fun y => 10 :: y.cps.toList).toArray := fun l => by
    induction l with
    | nil => intro acc; simp
    | cons a r ih =>
      intro acc
      rw [List.foldl_cons, ih]
      apply Array.toList_inj.mp
      simp
  have g : ∀ (a : Str) (r : List Str), vn (a :: r) = a.cps.toList ++ r.flatMap fun y => 10 :: y.cps.toList := by
    intro a r
    induction r generalizing a with
    | nil => simp [vn]
    | cons b r ih =>
      show a.cps.toList ++ 10 :: vn (b :: r) = _
      rw [ih b]; simp
  cases ys with
  | nil => rfl
  | cons a r =>
    show (⟨(r.foldl _ a.cps)⟩ : Str) = _
    rw [key, g]
    congr 1
    apply Array.toList_inj.mp
    simp
theorem zgc : MtR X "str.join" (fun x xs H Q => x = .str ⟨#[10]⟩ ∧ VR X.K (zb .joinN) xs H Q) := by
  rintro pins s σ H x xs v us Q I rx rs ⟨rfl, W, ds, r, wf, hs, hf, q⟩
  obtain ⟨t, rfl⟩ := rx
  replace hf : Zj ds = some r := hf
  unfold Zj at hf
  split at hf
  case h_2 => cases hf
  rename_i l
  rw [jo1] at hf
  obtain ⟨ys, e1, hf⟩ := hf
  split at hf
  case isFalse => cases hf
  rename_i hl
  cases hf
  cases hs with
  | cons h1 t1 =>
    cases t1
    obtain ⟨p, zs, rfl, hp, rp⟩ := h1.lst
    have ez := Jy rp e1
    subst ez
    obtain ⟨u, rfl, ru⟩ := wo rs
    cases ru
    obtain ⟨its, rv, pl, hz⟩ := I.list hp
    refine join_list (ys := ys) pl.isList (by simpa using Jz rv) (by show _ + _ * 1 ≤ _; omega) fun t' k => ?_
    rw [zgb]
    exact ⟨.str _, H, I.tok k, ⟨t', rfl⟩, q _ H (.refl H) (.val (.str _))⟩
theorem gy {x : Str} {j : Nat} {p1 apos cpos : Pos} (he : IE X fn e ce) (hx : x = ⟨#[10]⟩) (hst : starEach [e] X.env = (false, eval e X.env) :: starEach [] X.env)
    (hbase : attributeBase (.Constant (.str x) j p1) "join" X.env (eval (.Constant (.str x) j p1) X.env) = eval (.Constant (.str x) j p1) X.env := by rfl) (hline : (apos.endLine == cpos.line) = true := by rfl) :
    IE X fn (.Call (.Attribute (.Constant (.str x) j p1) "join" apos) [e] [] cpos) (.prim .joinN (.cons ce .nil)) :=
  .mk <| (Yw PySem.F.plainAttrs_str PySem.F.slot_str_join PySem.F.type_str_join zgc jg (wB he.v vi hst) hbase (by rw [hst]; rfl) hline hst zo).imp fun σ H Q zz3 => by
    obtain ⟨W, ρ, r, hR, h, q⟩ := zz3
    simp only [xE, yW, yX, jo1, jo2] at h
    obtain ⟨rs, ⟨r1, e1, rs', e3, rfl⟩, e4⟩ := h
    cases e3
    refine ⟨rfl, W, ρ, r1, hR, e1, fun v1 H1 s1 f1 => ⟨by rw [hx], vL hR s1 (.cons f1 .nil) e4 q⟩⟩
theorem zgd {x : Str} {c : Nat} (h : x.cps.toList = [c]) : x = ⟨#[c]⟩ := by
  cases x with
  | mk a =>
    have h : a.toList = [c] := h
    rw [← Array.toArray_toList (xs := a), h]
theorem gz : OpR X (compareOp .NotIn) (yj X.K (zb .ninS)) := by
  rintro pins s σ H x y v u Q I rx ry ⟨W, ds, r, wf, hs, hf, q⟩
  obtain ⟨d, e, rfl, h1, h2⟩ := yZ hs
  replace hf : jm [d, e] = some r := hf
  unfold jm at hf
  split at hf
  case h_2 => cases hf
  rename_i a b z
  cases z
  split at hf
  case h_2 => cases hf
  rename_i c hc
  cases hf
  cases h1.str; cases h2.str
  refine zcQ pins s σ H _ _ v u Q I rx ry ⟨a, b, rfl, rfl, ?_⟩
  rw [zgd hc, PySem.StrLaws.found_one]
  exact q _ H (.refl H) (.val (.bl _))
theorem jC : CallR X (.builtin "len") (VR X.K (zb .lenS)) := by
  rintro pins s σ H xs us Q I rv ⟨W, ds, r, wf, hs, hf, q⟩
  replace hf : Zi ds = some r := hf
  unfold Zi at hf
  split at hf
  case h_2 => cases hf
  rename_i x
  split at hf
  case isFalse => cases hf
  rename_i hx
  cases hf
  cases hs with
  | cons h1 t =>
    cases t
    cases h1.str
    have sl := sizeLine_eq
    exact zdu pins s σ H _ us Q I rv ⟨x, rfl, by omega, q _ H (.refl H) (.val (.int _))⟩
theorem zge : OpR X (binaryOp .Mult) (yj X.K (zb .mulS)) := by
  rintro pins s σ H x y v u Q I rx ry ⟨W, ds, r, wf, hs, hf, q⟩
  obtain ⟨d, e, rfl, h1, h2⟩ := yZ hs
  replace hf : Zh [d, e] = some r := hf
  unfold Zh at hf
  split at hf
  case h_2 => cases hf
  rename_i x k z
  cases z
  split at hf
  case isFalse => cases hf
  rename_i hk
  cases hf
  cases h1.str; cases h2.int
  obtain ⟨t, rfl⟩ := rx
  obtain ⟨t', rfl⟩ := ry
  obtain ⟨n, rfl⟩ := Int.eq_ofNat_of_zero_le (show (0 : Int) ≤ k by omega)
  have sl := sizeLine_eq
  have n1 : ¬ ((n : Int) < 1) := by omega
  have n2 : ((n : Int) == 1 || x.length == 0) = false := by
    rw [Bool.or_eq_false_iff]
    exact ⟨by simpa using (show ¬ ((n : Int) = 1) by omega), by simpa using (show ¬ (x.length = 0) by omega)⟩
  have le : x.length * n ≤ 1000 * 100 := Nat.mul_le_mul hk.2.2.2 (by omega)
  refine SB.mul ⟨?_, fun _ _ => ?_, fun _ _ => ?_⟩ fun t2 k2 => ⟨.str _, H, I.tok k2, ⟨t2, rfl⟩, ?_⟩
  · rw [Bool.or_eq_false_iff]
    exact ⟨decide_eq_false (by omega), decide_eq_false (by omega)⟩
  · have : (x.length : Int) * n ≤ 100000 := by
      have := Int.ofNat_le.mpr le
      simpa using this
    intro z
    have h2 : (2 ^ 63 - 1) / (n : Int) ≥ 1000 := by
      rw [ge_iff_le, Int.le_ediv_iff_mul_le (by omega)]
      omega
    omega
  · unfold Builtin.Str.tooLong
    rw [Int.toNat_natCast]
    exact decide_eq_false (by omega)
  · have e : Txt.mul x (n : Int) = ⟨((List.replicate n x.cps.toList).flatten).toArray⟩ := by
      unfold Txt.mul
      rw [if_neg n1, n2, if_neg Bool.false_ne_true, Int.toNat_natCast]
      congr 1
      have key : ∀ (m : Nat) (acc : Array Nat), (List.replicate m x.cps).foldl (· ++ ·) acc = acc ++ ((List.replicate m x.cps.toList).flatten).toArray := fun m => by
        induction m with
        | zero => intro acc; simp
        | succ m ih =>
          intro acc
          rw [List.replicate_succ, List.foldl_cons, ih, List.replicate_succ]
          apply Array.toList_inj.mp
          simp
      rw [key]; simp
    rw [e]
    have q2 := q (.str ⟨((List.replicate n x.cps.toList).flatten).toArray⟩) H (.refl H)
    rw [Int.toNat_natCast] at q2
    exact q2 (.val (.str _))
end
noncomputable def Zz (x : Str) : It := ⟨fun i _ => i < x.cps.size, fun i H v H' => H' = H ∧ (wZ x)[i]? = some v, fun i _ => i = x.cps.size⟩
theorem zgf {prog : Program} {w : World} {A : Around} {E : Value → Shared → Prop} {s : Shared} {it : Addr} {x : Str} {t : Tok} {i c : Nat} {Q : Option Value → Shared → Prop} (hit : s.heap.IsStrIter it (strIterType x) x t i) (hx : x.cps[i]? = some c)
    (hQ : ∀ h', h'.IsStrIter it (strIterType x) x t (i + 1) → Heap.SameBut it s.heap h' → Q (some (.str ⟨#[c]⟩ s.toks)) { s with heap := h', toks := s.toks + 1 }) : wpAny (model prog w) A (pyNext (.ref it)) Q E s := by
  unfold strIterType at hit hQ
  split at hit
  · rename_i h; rw [if_pos h] at hQ; exact wpAny_pyNext_ascii_item hit hx hQ
  · rename_i h; rw [if_neg h] at hQ; exact wpAny_pyNext_wide_item hit hx hQ
theorem zgg {prog : Program} {w : World} {A : Around} {E : Value → Shared → Prop} {s : Shared} {it : Addr} {x : Str} {t : Tok} {i : Nat} {Q : Option Value → Shared → Prop} (hh : A.handled = Option.none) (hit : s.heap.IsStrIter it (strIterType x) x t i) (hx : x.cps[i]? = Option.none)
    (hQ : ∀ h', Heap.ExtBut it s.heap h' → Q Option.none { s with heap := h' }) : wpAny (model prog w) A (pyNext (.ref it)) Q E s := by
  unfold strIterType at hit
  split at hit
  · exact wpAny_pyNext_ascii_end hh hit hx hQ
  · exact wpAny_pyNext_wide_end hh hit hx hQ
theorem zgh {P : Program} {w : World} {K : PySem.W.Frag} {tg : Expr} (it : Addr) (x : Str) (t : Tok) : Turn P w K tg (Zz x) [it] it (fun i h => h.IsStrIter it (strIterType x) x t i) where
  mem := by simp
  obj := fun i h st b hb => by
    have e : b = it := by simpa using hb
    subst e
    obtain ⟨o, e, c, d⟩ := st
    exact ⟨o, e, fun v z => by rw [d] at z; cases z⟩
  keep := fun i h h' st k => by
    obtain ⟨o, e, r⟩ := st
    exact ⟨o, k it (by simp) o e, r⟩
  item := by
    intro X hP hw hK hc i pins s σ H E I hf st hg
    subst hP hw hK
    have hi : i < x.cps.size := hg
    obtain ⟨f0, f1, f2, f3, f4, f5⟩ := hf it (by simp)
    have hx : x.cps[i]? = some x.cps[i] := by simp [hi]
    refine zgf st hx fun h' st' sb => ?_
    have I1 : Inv X pins σ H { s with heap := h', toks := s.toks + 1 } := I.turned (t' := s.toks + 1) (fun b o hb e => (sb.2 b hb).trans e) f0 f1 f3 f4 f5
    obtain ⟨o, e, c, d⟩ := id st'
    have hn : ["enumerate", "zip", "dict_itemiterator", "dict_reverseitemiterator", "odict_iterator", "itertools.zip_longest", "itertools.pairwise"].contains (strIterType x) = false := by
      unfold strIterType
      split <;> decide
    refine ⟨_, rfl, Yq (s := { s with heap := h', toks := s.toks + 1 }) e c d hn ⟨.str ⟨#[x.cps[i]]⟩, H, I1, ⟨_, rfl⟩, ⟨rfl, ?_⟩, st', fun b hb => (hf b hb).1⟩⟩
    unfold wZ
    rw [List.getElem?_map, Array.getElem?_toList, hx]; rfl
  done := by
    intro X hP hw hK hc i pins s σ H E I hf st hg
    subst hP hw hK
    have hi : i = x.cps.size := hg
    obtain ⟨f0, f1, f2, f3, f4, f5⟩ := hf it (by simp)
    exact zgg (I.ok.hd hc) st (by simp [hi]) fun h' eb => ⟨rfl, I.turned (t' := s.toks) (fun b o hb e => eb b o hb e) f0 f1 f3 f4 f5⟩
  self := fun A i s Q E st h => by
    unfold strIterType at st
    split at st
    · exact wpAny_pyIter_striter_ascii st h
    · exact wpAny_pyIter_striter_wide st h
section
variable {X : Cx} {fn : Nat → List D → Option SV} {e tg : Expr} {ce : E}
noncomputable def zgi (tl : TE) : TI := fun σ H R => tl σ H fun x H1 => ∃ z, x = .str z ∧ R (Zz z) H1
theorem zgj {l : Expr} {tl : TE} (hl : PE X l tl) : PI X tg l (zgi tl) := by
  intro pins s σ H R I h
  refine zq (hl pins s σ H _ I h) fun v s1 ⟨x, H1, I1, r1, q1⟩ => ?_
  obtain ⟨z, rfl, q⟩ := q1
  obtain ⟨t, rfl⟩ := r1
  refine wpAny_pyIter_strU ?_
  refine ⟨s1.heap.objs.size, [s1.heap.objs.size], _, _, H1, rfl, I1.kept (t' := s1.toks) fun b o e => Heap.get?_push_of_some _ e, zgh _ z t, ⟨_, Heap.get?_push_size _ rfl, rfl, rfl⟩, fun b hb => ?_, q⟩
  have e : b = s1.heap.objs.size := by simpa using hb
  subst e
  exact I1.fpOk (Nat.le_refl _) (I1.hok.fresh (Nat.le_refl _))
theorem gA {K : PySem.W.Frag} {x : Str} {H' : Hp} {W' : Addr → Prop} (k : Nat) :
    (k = (xh x).length → (Zz x).stop k H') ∧ ∀ d, (xh x)[k]? = some d → (Zz x).go k H' ∧ ∀ v H'', (Zz x).yld k H' v H'' → H'' = H' ∧ Rep K W' H' d v := by
  have ln : (xh x).length = x.cps.size := by simp [xh]
  refine ⟨fun e => by show k = _; rw [e, ln], fun d e => ?_⟩
  have hk : k < x.cps.size := by rw [← ln]; exact (List.getElem?_eq_some_iff.mp e).1
  refine ⟨hk, fun v H'' z => ⟨z.1, ?_⟩⟩
  have z2 := z.2
  unfold xh at e
  unfold wZ at z2
  rw [List.getElem?_map, jo2] at e z2
  obtain ⟨c, e1, rfl⟩ := e
  obtain ⟨c', e2, rfl⟩ := z2
  rw [e1] at e2
  cases e2
  exact .str _
theorem zgk (he : IE X fn e ce) : Src X fn tg e false (.cons ce (.cons .non (.cons .non .nil))) :=
  .mk <| (zgj he.v).imp fun σ H R0 zz3 => by
    obtain ⟨W, ρ, rs, ds, hR, h1, h2, q⟩ := zz3
    simp only [yW, yX, jo1, jo2] at h1
    obtain ⟨r, e1, rs', ⟨r2, e2, rs2, ⟨r3, e3, rs3, e4, rfl⟩, rfl⟩, rfl⟩ := h1
    cases e4
    have e2 : some (SV.val D.non) = some r2 := e2
    cases e2
    have e3 : some (SV.val D.non) = some r3 := e3
    cases e3
    refine ⟨W, ρ, r, hR, e1, fun v H1 s1 f => ?_⟩
    cases f with
    | val g =>
      cases g with
      | str x =>
        simp only [zU] at h2
        split at h2
        case isFalse => cases h2
        cases h2
        exact ⟨x, rfl, q _ H1 s1 (fun W' H' s w k => gA k) fun _ W' H' x k => gA k⟩
      | _ => simp [zU] at h2
    | _ => simp [zU] at h2
end
end L2.LW
set_option maxHeartbeats 4000000
set_option maxRecDepth 100000
namespace L2.LW
open PySem PySem.Spec PySem.W PySem.Calls PyProof.Rows PySem.Builtin
section
variable {X : Cx} {pins : List (Addr × Obj)} {σ : St} {H : Hp} {s : Shared} {a : Addr} {o : Obj}
theorem zgl {D : Ends} {cls : Value} {C0 : Addr} {y : Str} {H1 H' : Hp} {s1 s' : Shared} {B : Heap} {t : Addr} {b : Bool} {e : Expr} {np rp hpos : Pos} {zX : List ExceptHandler}
    (I : Inv X pins σ H1 s1) (hst : X.stack = X.env :: X.outer) (hfr : X.env.frame = some X.env.locals) (os : s'.os = s1.os) (bare : AllBare s'.gens) (u : Un (zM X.stack) [] H1 H' s1.heap s'.heap) (ok : HOk X.prog X.w H' s'.heap)
    (fl : Heap.FlyingW B X.stack a cls (.ref t) s'.heap) (full : ∀ b o, ((∃ o0, s1.heap.get? b = some o0) ∨ H' b ≠ Option.none) → b ∉ zM X.stack → s'.heap.get? b = some o → B.get? b = some o) (he : H' a = Option.none)
    (hx : exmOne X.K cls (.ref C0) = some true) (hg : Gl X y) (hm : X.mg y = some (.ref C0)) (hdb : (y == ("__debug__" : Str)) = false)
    (hs : ∀ o : Obj, o.cls = cls → PE (xx X a o) e (tC (.bl b))) (q : D.rt (.bl b) H') :
    wpAny (model X.prog X.w) X.A (noteFrame (.ref a) X.env) (fun _ s₂ => wpAny (model X.prog X.w) X.A (setFlight (.ref a) Option.none) (fun _ s₃ =>
      wpAny (model X.prog X.w) X.A (handleBy (.ref a) X.env (.ExceptHandler (some (.Name y np)) Option.none [.Return (some e) rp] hpos :: zX)) (SP X pins D) X.xe s₃) X.xe s₂) X.xe s' := by
  have hin : X.env.locals ∈ zM X.stack := by
    rw [hst]; unfold zM; rw [List.filterMap_cons, hfr]; exact List.mem_cons_self
  have ain : ∀ h : Heap, Heap.FlyingW B X.stack a cls (.ref t) h → ∃ ob, h.get? a = some ob ∧ ob.cls = cls ∧ (∀ v, ob.data ≠ .cell v) ∧ a ≠ X.env.locals ∧ a ∉ X.fs := fun h f => by
    obtain ⟨oe, vs, g1, g2, g3, _⟩ := f.first
    have nf : a ∉ zM X.stack := fun hm => by
      obtain ⟨_, o2, g4, g5⟩ := f.2.2.1.mem hm
      rw [g1] at g4; cases g4
      exact g5 vs g3
    refine ⟨oe, g1, g2, ?_, fun z => nf (by rw [z]; exact hin), fun z => nf ?_⟩
    · intro v z; rw [g3] at z; cases z
    · rw [hst]; unfold zM; rw [List.filterMap_cons, hfr]; exact List.mem_cons_of_mem _ z
  refine wpAny_looks_onW (L := X.env.locals) (outer := X.outer) (by rw [← hst]; exact I.ok.frames) hfr (by rw [← hst]; exact fl) fun h4 held4 k4 => ?_
  refine wpAny_landsW held4 fun h5 fl5 k5 => ?_
  rw [← hst] at fl5
  obtain ⟨J5, -, -⟩ := Inv.flew (h' := h5) I os bare u ok fl.2.2.1 full fl5.1 (k4.trans k5)
  obtain ⟨o5, g1, g2, g3, g4, g5⟩ := ain h5 fl5
  have S5 := Xj J5 g1 he g4 g5 g3
  refine wpAny_handleBy_cons (codeAny_handlers_test (jQ (X := xx X a o5) S5 hg hm ?_ hdb)) (by intro z; cases z)
  have LT : Looks (model X.prog X.w) h5 (typeOf (.ref a)) cls := g2 ▸ (Looks.ld g1).andThen .now
  refine (exm_one (K := X.K) S5.kIn LT hx).here ?_
  refine codeAny_handlers_suite ?_
  refine lands_againW (base := B) (l := X.stack) fl5 fun h6 fl6 k6 => ?_
  obtain ⟨J6, -, -⟩ := Inv.flew (h' := h6) I os bare u ok fl.2.2.1 full fl6.1 ((k4.trans k5).trans k6)
  obtain ⟨o6, g1, g2, g3, g4, g5⟩ := ain h6 fl6
  have S6 := Xj J6 g1 he g4 g5 g3
  have ps := Ym (Yn (pos := rp) (hs o6 g2)) (Yk (X := xx X a o6))
  have w := ps pins _ σ H' { nx := fun _ _ => False, rt := fun v H2 => v = .bl b ∧ H2 = H' } S6 ⟨rfl, rfl⟩
  refine wpAny_mono w (fun f s8 h8 => ?_) fun _ _ z => z.elim
  cases f with
  | next => obtain ⟨_, _, _, z⟩ := h8; exact z.elim
  | brk => obtain ⟨_, _, _, z⟩ := h8; exact z.elim
  | cont => obtain ⟨_, _, _, z⟩ := h8; exact z.elim
  | ret u =>
    obtain ⟨v, σ8, H8, I8, rv, rfl, rfl⟩ := h8
    exact ⟨.bl b, _, _, qZ I8 I.ok, rv, q⟩
theorem zgm {D : Ends} {cls : Value} {C0 : Addr} {k : Nat} {n y : Str} {H1 H' : Hp} {s1 s' : Shared} {B : Heap} {t : Addr} {b : Bool} {e : Expr} {np rp hpos : Pos} {zX : List ExceptHandler}
    (I : Inv X pins σ H1 s1) (hst : X.stack = X.env :: X.outer) (hfr : X.env.frame = some X.env.locals) (os : s'.os = s1.os) (bare : AllBare s'.gens) (u : Un (zM X.stack) [] H1 H' s1.heap s'.heap) (ok : HOk X.prog X.w H' s'.heap)
    (fl : Heap.FlyingW B X.stack a cls (.ref t) s'.heap) (full : ∀ b o, ((∃ o0, s1.heap.get? b = some o0) ∨ H' b ≠ Option.none) → b ∉ zM X.stack → s'.heap.get? b = some o → B.get? b = some o) (he : H' a = Option.none)
    (hx : exmOne X.K cls (.ref C0) = some true) (hg : Gl X y) (hm : X.mg y = some (.ref C0)) (hdb : (y == ("__debug__" : Str)) = false) (hN : X.N.Nodup) (hi : X.N[k]? = some n) (hlo : X.env.scope.names.lookup n = some .local)
    (hs : ∀ o : Obj, o.cls = cls → PE (xx X a o) e (zf6 k a b)) (q : D.rt (.bl b) H') :
    wpAny (model X.prog X.w) X.A (noteFrame (.ref a) X.env) (fun _ s₂ => wpAny (model X.prog X.w) X.A (setFlight (.ref a) Option.none) (fun _ s₃ =>
      wpAny (model X.prog X.w) X.A (handleBy (.ref a) X.env (.ExceptHandler (some (.Name y np)) (some n) [.Return (some e) rp] hpos :: zX)) (SP X pins D) X.xe s₃) X.xe s₂) X.xe s' := by
  have hin : X.env.locals ∈ zM X.stack := by
    rw [hst]; unfold zM; rw [List.filterMap_cons, hfr]; exact List.mem_cons_self
  have ain : ∀ h : Heap, Heap.FlyingW B X.stack a cls (.ref t) h → ∃ ob, h.get? a = some ob ∧ ob.cls = cls ∧ (∀ v, ob.data ≠ .cell v) ∧ a ≠ X.env.locals ∧ a ∉ X.fs := fun h f => by
    obtain ⟨oe, vs, g1, g2, g3, _⟩ := f.first
    have nf : a ∉ zM X.stack := fun hm => by
      obtain ⟨_, o2, g4, g5⟩ := f.2.2.1.mem hm
      rw [g1] at g4; cases g4
      exact g5 vs g3
    refine ⟨oe, g1, g2, ?_, fun z => nf (by rw [z]; exact hin), fun z => nf ?_⟩
    · intro v z; rw [g3] at z; cases z
    · rw [hst]; unfold zM; rw [List.filterMap_cons, hfr]; exact List.mem_cons_of_mem _ z
  refine wpAny_looks_onW (L := X.env.locals) (outer := X.outer) (by rw [← hst]; exact I.ok.frames) hfr (by rw [← hst]; exact fl) fun h4 held4 k4 => ?_
  refine wpAny_landsW held4 fun h5 fl5 k5 => ?_
  rw [← hst] at fl5
  obtain ⟨J5, -, -⟩ := Inv.flew (h' := h5) I os bare u ok fl.2.2.1 full fl5.1 (k4.trans k5)
  obtain ⟨o5, g1, g2, g3, g4, g5⟩ := ain h5 fl5
  have S5 := Xj J5 g1 he g4 g5 g3
  refine wpAny_handleBy_cons (codeAny_handlers_test (jQ (X := xx X a o5) S5 hg hm ?_ hdb)) (by intro z; cases z)
  have LT : Looks (model X.prog X.w) h5 (typeOf (.ref a)) cls := g2 ▸ (Looks.ld g1).andThen .now
  refine (exm_one (K := X.K) S5.kIn LT hx).here ?_
  refine codeAny_handlers_suite_as ?_
  refine lands_againW (base := B) (l := X.stack) fl5 fun h6 fl6 k6 => ?_
  obtain ⟨J6, -, -⟩ := Inv.flew (h' := h6) I os bare u ok fl.2.2.1 full fl6.1 ((k4.trans k5).trans k6)
  obtain ⟨o6, g1, g2, g3, g4, g5⟩ := ain h6 fl6
  have S6 := Xj J6 g1 he g4 g5 g3
  refine Vj (X := xx X a o6) (i := k) (v := .ref a) S6 hN hi (.inl hlo) rfl (fun s7 I7 => ?_) (.inr hlo)
  have lk : k < σ.length := by rw [I.len]; exact (List.getElem?_eq_some_iff.mp hi).1
  have gk : (σ.set k (some (.ref a)))[k]? = some (some (.ref a)) := by simp [lk]
  have ps := Ym (Yn (pos := rp) (hs o6 g2)) (Yk (X := xx X a o6))
  have w := ps pins s7 _ H' { nx := fun _ _ => False, rt := fun v H2 => v = .bl b ∧ H2 = H' } I7 ⟨gk, rfl, rfl⟩
  refine wpAny_mono w (fun f s8 h8 => ?_) fun _ _ z => z.elim
  cases f with
  | next => obtain ⟨_, _, _, z⟩ := h8; exact z.elim
  | brk => obtain ⟨_, _, _, z⟩ := h8; exact z.elim
  | cont => obtain ⟨_, _, _, z⟩ := h8; exact z.elim
  | ret u =>
    obtain ⟨v, σ8, H8, I8, rv, rfl, rfl⟩ := h8
    obtain ⟨m, hn, hl⟩ := I8.loc
    exact wpAny_nameGoes_keeps hlo hn (by rw [I.ok.kind]; rfl) fun h9 v9 ns9 sb9 => ⟨.bl b, _, _, Inv.gone (qZ I8 I.ok) hN hi hl ns9 sb9, rv, q⟩
end
section
variable {X : Cx} {cl : Nat → Value} {E : XK} {fa : Nat → List D → Option Ans} {fuel : Nat}
theorem zgn {b : Ts} {k : Nat} {cs : List Nat} {body : List Stmt} {C0 : Addr} {y : Str} {j : Nat} {cp : Pos} {np rp hpos pos : Pos} (hst : X.stack = X.env :: X.outer) (hfr : X.env.frame = some X.env.locals)
    (hb : ∀ (pn : List (Addr × Obj)) (xe : Value → Shared → Prop) (E1 : XK), vj (yE X.prog X.w) (wY X pn xe) E1 → IXs (wY X pn xe) cl E1 (zS fa fuel b) body)
    (hx : ∀ c ∈ cs, exmOne X.K (cl c) (.ref C0) = some true) (hg : Gl X y) (hm : X.mg y = some (.ref C0)) (hdb : (y == ("__debug__" : Str)) = false) :
    IX X cl E (zY fa fuel (.tryX b k cs .tru)) (.Try body [(.ExceptHandler (some (.Name y np)) Option.none [.Return (some (.Constant (.bool true) j cp)) rp] hpos)] [] [] pos) := .mk fun pins s σ H D0 I zz6 => by
  obtain ⟨W, ρ, x, hR, hx0, q⟩ := zz6
  refine wpAny_Try_except ?_
  simp only [zY, jo1] at hx0
  obtain ⟨⟨fl, ρ1⟩, g1, g2⟩ := hx0
  have hP : vj (yE X.prog X.w) (wY X (X.pn ++ pins) fun e s₁ => wpAny (model X.prog X.w) X.A (noteFrame e X.env) (fun _ s₂ => wpAny (model X.prog X.w) X.A (setFlight e Option.none) (fun _ s₃ =>
      wpAny (model X.prog X.w) X.A (handleBy e X.env [(.ExceptHandler (some (.Name y np)) Option.none [.Return (some (.Constant (.bool true) j cp)) rp] hpos)]) (SP X pins D0) X.xe s₃) X.xe s₂) X.xe s₁)
      (fun cv _ H' => ∃ c ∈ cs, cv = cl c ∧ D0.rt (.bl true) H') := by
    rintro pins1 σ1 H1 s1 e s' I1 ⟨a, c, H', rfl, os, bare, un, ok, ⟨B, t, fl, full, he⟩, ⟨c', hc, rfl, q⟩⟩
    exact zgl (jB I1) hst hfr os bare un ok fl full he (hx c' hc) hg hm hdb (fun o ho => QP) q
  have w := (hb _ _ _ hP).h [] s σ H D0 (ga I) ⟨W, ρ, (fl, ρ1), hR, g1, fun W1 σ1 H1 p1 => ?_⟩
  · refine wpAny_mono w (fun f s1 h1 => ?_) fun _ _ z => z
    cases f with
    | next => exact wpAny_execs_nil (vt h1)
    | brk => exact vt h1
    | cont => exact vt h1
    | ret u => exact vt h1
  · cases fl with
    | fl f => cases g2; exact q W1 σ1 H1 p1
    | ex c =>
      simp only at g2
      split at g2
      case isFalse => cases g2
      rename_i hc
      simp only [Zm] at g2
      cases g2
      exact ⟨c, by simpa using hc, rfl, q W1 σ1 H1 p1 _ (.val (.bl _))⟩
theorem zgo {b : Ts} {k : Nat} {cs : List Nat} {body : List Stmt} {C0 : Addr} {y n : Str} {i1 : Expr} {np rp hpos pos : Pos} (hst : X.stack = X.env :: X.outer) (hfr : X.env.frame = some X.env.locals)
    (hb : ∀ (pn : List (Addr × Obj)) (xe : Value → Shared → Prop) (E1 : XK), vj (yE X.prog X.w) (wY X pn xe) E1 → IXs (wY X pn xe) cl E1 (zS fa fuel b) body)
    (hx : ∀ c ∈ cs, exmOne X.K (cl c) (.ref C0) = some true) (hg : Gl X y) (hm : X.mg y = some (.ref C0)) (hdb : (y == ("__debug__" : Str)) = false) (hN : X.N.Nodup) (hi : X.N[k]? = some n) (hlo : X.env.scope.names.lookup n = some .local) (h1 : ∀ c ∈ cs, YQ c 7 = true → ∀ (a : Addr) (o : Obj), o.cls = cl c → PE (xx X a o) i1 (Jr k a)) :
    IX X cl E (zY fa fuel (.tryX b k cs .tru)) (.Try body [(.ExceptHandler (some (.Name y np)) (some n) [.Return (some i1) rp] hpos)] [] [] pos) := .mk fun pins s σ H D0 I zz6 => by
  obtain ⟨W, ρ, x, hR, hx0, q⟩ := zz6
  refine wpAny_Try_except ?_
  simp only [zY, jo1] at hx0
  obtain ⟨⟨fl, ρ1⟩, g1, g2⟩ := hx0
  have hP : vj (yE X.prog X.w) (wY X (X.pn ++ pins) fun e s₁ => wpAny (model X.prog X.w) X.A (noteFrame e X.env) (fun _ s₂ => wpAny (model X.prog X.w) X.A (setFlight e Option.none) (fun _ s₃ =>
      wpAny (model X.prog X.w) X.A (handleBy e X.env [(.ExceptHandler (some (.Name y np)) (some n) [.Return (some i1) rp] hpos)]) (SP X pins D0) X.xe s₃) X.xe s₂) X.xe s₁)
      (fun cv _ H' => ∃ c ∈ cs, cv = cl c ∧ D0.rt (.bl true) H') := by
    rintro pins1 σ1 H1 s1 e s' I1 ⟨a, c, H', rfl, os, bare, un, ok, ⟨B, t, fl, full, he⟩, ⟨c', hc, rfl, q⟩⟩
    exact zgm (jB I1) hst hfr os bare un ok fl full he (hx c' hc) hg hm hdb hN hi hlo (h1 c' hc (by unfold YQ; simp) a) q
  have w := (hb _ _ _ hP).h [] s σ H D0 (ga I) ⟨W, ρ, (fl, ρ1), hR, g1, fun W1 σ1 H1 p1 => ?_⟩
  · refine wpAny_mono w (fun f s1 h1 => ?_) fun _ _ z => z
    cases f with
    | next => exact wpAny_execs_nil (vt h1)
    | brk => exact vt h1
    | cont => exact vt h1
    | ret u => exact vt h1
  · cases fl with
    | fl f => cases g2; exact q W1 σ1 H1 p1
    | ex c =>
      simp only at g2
      split at g2
      case isFalse => cases g2
      rename_i hc
      simp only [Zm] at g2
      cases g2
      exact ⟨c, by simpa using hc, rfl, q W1 σ1 H1 p1 _ (.val (.bl _))⟩
end
end L2.LW
namespace L2.LW
open PySem
section
variable {fn : Nat → List D → Option SV} {fa : Nat → List D → Option Ans} {fuel : Nat} {ρ : Env}
@[simp] theorem zkT {i : Int} : zf fn (.int i) ρ = some (.val (.int i)) := rfl
@[simp] theorem zkU {i : Bool} : zf fn (.bl i) ρ = some (.val (.bl i)) := rfl
@[simp] theorem zkV : zf fn .non ρ = some (.val .non) := rfl
@[simp] theorem zkW {i : Str} : zf fn (.str i) ρ = some (.val (.str i)) := rfl
@[simp] theorem gB {i : Nat} : zf fn (.var i) ρ = look ρ i := rfl
@[simp] theorem zkX {p : Prim} {es : Es} : zf fn (.prim p es) ρ = (zN fn es ρ).bind fun rs => zb p (rs.map zu) := rfl
@[simp] theorem zkY {es : Es} : zf fn (.tup es) ρ = (zN fn es ρ).bind fun rs => (xi rs).map fun ds => .val (.tup ds) := rfl
@[simp] theorem zkZ {es : Es} : zf fn (.lst es) ρ = (zN fn es ρ).bind fun rs => (xi rs).map fun ds => .obj true (.lst ds) := rfl
noncomputable def JG (r : SV) (k : Option SV) : Option SV := match r with
  | .val (.bl true) => k
  | .val (.bl false) => some (.val (.bl false))
  | _ => none
noncomputable def gC (r : SV) (k : Option SV) : Option SV := match r with
  | .val (.bl true) => some (.val (.bl true))
  | .val (.bl false) => k
  | _ => none
noncomputable def gD (r : SV) : Option SV := match r with
  | .val (.bl b) => some (.val (.bl (!b)))
  | _ => none
@[simp] theorem zk0 {b : Bool} {k : Option SV} : JG (.val (.bl b)) k = if b then k else some (.val (.bl false)) := by cases b <;> rfl
@[simp] theorem zk1 {b : Bool} {k : Option SV} : gC (.val (.bl b)) k = if b then some (.val (.bl true)) else k := by cases b <;> rfl
@[simp] theorem zk2 {b : Bool} : gD (.val (.bl b)) = some (.val (.bl (!b))) := rfl
@[simp] theorem zk3 {a b : E} : zf fn (.and a b) ρ = (zf fn a ρ).bind fun r => JG r (zf fn b ρ) := rfl
@[simp] theorem zk4 {a b : E} : zf fn (.or a b) ρ = (zf fn a ρ).bind fun r => gC r (zf fn b ρ) := rfl
@[simp] theorem zk5 {a : E} : zf fn (.not a) ρ = (zf fn a ρ).bind gD := rfl
@[simp] theorem zk6 {p q : Prim} {a b c : E} : zf fn (.chain p q a b c) ρ = (zf fn a ρ).bind fun x => (zf fn b ρ).bind fun y => (zb p [zu x, zu y]).bind fun z => JG z ((zf fn c ρ).bind fun w => zb q [zu y, zu w]) := rfl
@[simp] theorem zk7 {c a b : E} : zf fn (.ite c a b) ρ = (zx fn c ρ).bind fun k => if k then zf fn a ρ else zf fn b ρ := rfl
@[simp] theorem zk8 {f : Nat} {es : Es} : zf fn (.call f es) ρ = (zN fn es ρ).bind fun rs => xO rs (fn f (rs.map zu)) := rfl
theorem zgp {g : Bool} {src : Es} {cond elt : E} : zf fn (.comp g src cond elt) ρ = (zN fn src ρ).bind fun rs => (zU g rs).bind fun ds =>
    if ds.length ≤ line then (yH (fun d => zx fn cond (some (.val d) :: ρ)) (fun d => zf fn elt (some (.val d) :: ρ)) ds).map fun l => .obj true (.lst l) else none := rfl
@[simp] theorem zk9 {t : Bool} : zf fn (.dnew t) ρ = some (.obj true (.dct t [] [])) := rfl
@[simp] theorem zla {t : Bool} {k v : E} : zf fn (.done t k v) ρ = (zf fn k ρ).bind fun x => (zf fn v ρ).bind fun y => (toD x).bind fun a => (toD y).bind fun b => if yP t a then some (.obj true (.dct t [a] [b])) else none := rfl
theorem gE {g : Bool} {src : Es} {cond elt : E} : zx fn (.comp g src cond elt) ρ = (zf fn (.comp g src cond elt) ρ).bind yc := by
  rw [qc, VF]
  cases zN fn src ρ with
  | none => rfl
  | some rs =>
    simp only [Option.bind_some]
    cases zU g rs with
    | none => rfl
    | some ds =>
      simp only [Option.bind_some]
      split
      · cases yH (fun d => zx fn cond (some (.val d) :: ρ)) (fun d => zf fn elt (some (.val d) :: ρ)) ds <;> rfl
      · rfl
@[simp] theorem gF : zN fn .nil ρ = some [] := rfl
@[simp] theorem gG {e : E} {es : Es} : zN fn (.cons e es) ρ = (zf fn e ρ).bind fun r => (zN fn es ρ).map (r :: ·) := rfl
@[simp] theorem zlb {a b : E} : zx fn (.and a b) ρ = (zx fn a ρ).bind fun k => if k then zx fn b ρ else some false := rfl
@[simp] theorem zlc {a b : E} : zx fn (.or a b) ρ = (zx fn a ρ).bind fun k => if k then some true else zx fn b ρ := rfl
@[simp] theorem zld {a : E} : zx fn (.not a) ρ = (zx fn a ρ).map (!·) := rfl
@[simp] theorem zle {i : Int} : zx fn (.int i) ρ = some (i != 0) := rfl
@[simp] theorem zgq {i : Bool} : zx fn (.bl i) ρ = some i := rfl
@[simp] theorem zlf {i : Nat} : zx fn (.var i) ρ = (look ρ i).bind yc := rfl
@[simp] theorem zlg {p : Prim} {es : Es} : zx fn (.prim p es) ρ = (zN fn es ρ).bind fun rs => (zb p (rs.map zu)).bind yc := rfl
@[simp] theorem zlh {f : Nat} {es : Es} : zx fn (.call f es) ρ = (zN fn es ρ).bind fun rs => (xO rs (fn f (rs.map zu))).bind yc := rfl
noncomputable def gH (r : SV) (k : Option Bool) : Option Bool := match r with
  | .val (.bl true) => k
  | .val (.bl false) => some false
  | _ => none
@[simp] theorem zli {b : Bool} {k : Option Bool} : gH (.val (.bl b)) k = if b then k else some false := by cases b <;> rfl
@[simp] theorem zlj {p q : Prim} {a b c : E} : zx fn (.chain p q a b c) ρ = (zf fn a ρ).bind fun x => (zf fn b ρ).bind fun y => (zb p [zu x, zu y]).bind fun z => gH z ((zf fn c ρ).bind fun w => (zb q [zu y, zu w]).bind yc) := rfl
@[simp] theorem zlk {e : E} : zH fa fuel (.expr e) ρ = (zf (zA fa) e ρ).map fun _ => (.nx, ρ) := rfl
@[simp] theorem zll {i : Nat} {e : E} : zH fa fuel (.asg i e) ρ = (zf (zA fa) e ρ).bind fun r => if r.lent || !free ρ i then none else some (.nx, ρ.set i (some r)) := rfl
noncomputable def zK : Option (Option SV) → Bool
  | some (some (.io _)) => false
  | _ => true
@[simp] theorem gI {i : Nat} : free ρ i = zK ρ[i]? := by
  unfold free zK
  rcases h : ρ[i]? with _ | _ | (d | ⟨o, d⟩ | d) <;> rfl
@[simp] theorem zlm : zK none = true := rfl
@[simp] theorem zln : zK (some none) = true := rfl
@[simp] theorem yS {d : D} : zK (some (some (.val d))) = true := rfl
@[simp] theorem zlo {o : Bool} {d : D} : zK (some (some (.obj o d))) = true := rfl
noncomputable def JH (ρ : Env) (i j : Nat) : Option (Option SV) → Option (Fl × Env)
  | some (some (.val d)) => some (.nx, ρ.set i (some (.val d)))
  | some (some (.obj _ d)) => some (.nx, (ρ.set j (some (.val d))).set i (some (.val d)))
  | _ => none
@[simp] theorem zlp {i j : Nat} {d : D} : JH ρ i j (some (some (.val d))) = some (.nx, ρ.set i (some (.val d))) := rfl
@[simp] theorem zlq {i j : Nat} {o : Bool} {d : D} : JH ρ i j (some (some (.obj o d))) = some (.nx, (ρ.set j (some (.val d))).set i (some (.val d))) := rfl
@[simp] theorem zlr {i j : Nat} : zH fa fuel (.mov i j) ρ = if free ρ i then JH ρ i j ρ[j]? else none := by
  rw [zey]
  rcases h : ρ[j]? with _ | _ | (d | ⟨o, d⟩ | d) <;> rfl
noncomputable def Xm (ρ : Env) (j : Nat) : Option (Option SV) → Option (List D × Env)
  | some (some (.val d)) => (vG d).map fun l => (l, ρ)
  | some (some (.obj _ (.lst ds))) => some (ds, ρ.set j (some (.val (.lst ds))))
  | _ => none
@[simp] theorem zls {j : Nat} {d : D} : Xm ρ j (some (some (.val d))) = (vG d).map fun l => (l, ρ) := rfl
@[simp] theorem zlt {j : Nat} {o : Bool} {ds : List D} : Xm ρ j (some (some (.obj o (.lst ds)))) = some (ds, ρ.set j (some (.val (.lst ds)))) := rfl
@[simp] theorem zlu {j : Nat} : VE ρ j = Xm ρ j ρ[j]? := by
  unfold VE Xm
  rcases h : ρ[j]? with _ | _ | (d | ⟨o, d⟩ | d) <;> rfl
@[simp] theorem zlv {l : List D} : vG (.tup l) = some l := rfl
@[simp] theorem zlw {l : List D} : vG (.lst l) = some l := rfl
noncomputable def zgr (ρ : Env) (i : Nat) (x : SV) (r : Option SV) : Option D → Option (Fl × Env)
  | some (.lst ds) => r.bind fun r => (toD r).bind fun d => if ds.length < line then some (.nx, ρ.set i (some (x.put (.lst (ds ++ [d]))))) else none
  | _ => none
noncomputable def ZA (ρ : Env) (i : Nat) (r : Option SV) : Option (Option SV) → Option (Fl × Env)
  | some (some x) => zgr ρ i x r x.cell
  | _ => none
@[simp] theorem zgs {i : Nat} {r : Option SV} {ds : List D} : ZA ρ i r (some (some (.obj true (.lst ds)))) = r.bind fun r => (toD r).bind fun d => if ds.length < line then some (.nx, ρ.set i (some (.obj true (.lst (ds ++ [d]))))) else none := rfl
@[simp] theorem zlx {i : Nat} {e : E} : zH fa fuel (.app i e) ρ = ZA ρ i (zf (zA fa) e ρ) ρ[i]? := by
  rw [qd]
  rcases h : ρ[i]? with _ | _ | (d | ⟨_ | _, d⟩ | d)
  · rfl
  · rfl
  · rfl
  · rfl
  · cases d <;> rfl
  · cases d <;> rfl
noncomputable def zgt (ρ : Env) (i : Nat) (x : SV) (rk rv : Option SV) : Option D → Option (Fl × Env)
  | some (.dct t ks vs) => rv.bind fun r => (toD r).bind fun d => rk.bind fun r => (toD r).bind fun a => if yP t a && decide (ks.length < line) then some (.nx, ρ.set i (some (x.put (jk t ks vs a d)))) else none
  | _ => none
noncomputable def JI (ρ : Env) (i : Nat) (rk rv : Option SV) : Option (Option SV) → Option (Fl × Env)
  | some (some x) => zgt ρ i x rk rv x.cell
  | _ => none
@[simp] theorem zly {i : Nat} {rk rv : Option SV} {t : Bool} {ks vs : List D} : JI ρ i rk rv (some (some (.obj true (.dct t ks vs)))) = rv.bind fun r => (toD r).bind fun d => rk.bind fun r => (toD r).bind fun a => if yP t a && decide (ks.length < line) then some (.nx, ρ.set i (some (.obj true (jk t ks vs a d)))) else none := rfl
@[simp] theorem zlz {i : Nat} {rk rv : Option SV} {t : Bool} {ks vs : List D} : JI ρ i rk rv (some (some (.io (.dct t ks vs)))) = rv.bind fun r => (toD r).bind fun d => rk.bind fun r => (toD r).bind fun a => if yP t a && decide (ks.length < line) then some (.nx, ρ.set i (some (.io (jk t ks vs a d)))) else none := rfl
@[simp] theorem zlA {i : Nat} {k v : E} : zH fa fuel (.dset i k v) ρ = JI ρ i (zf (zA fa) k ρ) (zf (zA fa) v ρ) ρ[i]? := by
  rw [zez]
  rcases h : ρ[i]? with _ | _ | (d | ⟨_ | _, d⟩ | d)
  · rfl
  · rfl
  · rfl
  · rfl
  · cases d <;> rfl
  · cases d <;> rfl
theorem Xn {i j : Nat} {src : E} {body : Ss} : zH fa fuel (.forE i j src body) ρ = (zf (zA fa) src ρ).bind fun r => if !free ρ i || !free ρ j then none else (wQ r).bind fun ds => xB i j (zv fa fuel body) ds ρ := rfl
@[simp] theorem zlB {i j k : Nat} {e : E} : zH fa fuel (.unp3 i j k e) ρ = (zf (zA fa) e ρ).bind (kY ρ i j k) := rfl
@[simp] theorem zlC {i j : Nat} : zH fa fuel (.dupd i j) ρ = kX ρ i j := rfl
@[simp] theorem zlD {m : M} : zH fa fuel (.exprM m) ρ = (wC fa m ρ).map fun x => (.nx, x.2) := rfl
@[simp] theorem zlE {i : Nat} {m : M} : zH fa fuel (.asgM i m) ρ = (wC fa m ρ).bind fun x => if x.1.lent || !free x.2 i then none else some (.nx, x.2.set i (some (.val (zu x.1)))) := rfl
@[simp] theorem zlF {c : E} {m : M} {a b : Ss} : zH fa fuel (.ifO c m a b) ρ = (zx (zA fa) c ρ).bind fun k => if k then zv fa fuel a ρ else (wC fa m ρ).bind fun x => (yc x.1).bind fun k => if k then zv fa fuel a x.2 else zv fa fuel b x.2 := rfl
noncomputable def gJ (ρ : Env) (xs : List AV) : Ans → Option (SV × Env)
  | .ok r outs => if r.fine && outs.all xM then (xj ρ xs outs).map fun ρ' => (r, ρ') else none
  | .ex _ => none
@[simp] theorem zlG {xs : List AV} {r : SV} {outs : List D} : gJ ρ xs (.ok r outs) = if r.fine && outs.all xM then (xj ρ xs outs).map fun ρ' => (r, ρ') else none := rfl
@[simp] theorem zlH {f : Nat} {ma : MA} : wC fa (.call f ma) ρ = (xY (zA fa) ma ρ).bind fun xs => (fa f (xs.map jr)).bind (gJ ρ xs) := rfl
noncomputable def gK (p : Prim) (k : Option (SV × Env)) : SV → Option (SV × Env)
  | .val d => if plain d then k.bind fun y => (zb p [d, zu y.1]).map fun z => (z, y.2) else none
  | _ => none
@[simp] theorem zlI {p : Prim} {k : Option (SV × Env)} {d : D} : gK p k (.val d) = if plain d then k.bind fun y => (zb p [d, zu y.1]).map fun z => (z, y.2) else none := rfl
@[simp] theorem zlJ {p : Prim} {a : E} {m : M} : wC fa (.op p a m) ρ = (zf (zA fa) a ρ).bind (gK p (wC fa m ρ)) := rfl
@[simp] theorem zlK : xY fn .nil ρ = some [] := rfl
@[simp] theorem zlL {c : E} {r : MA} : xY fn (.e c r) ρ = (zf fn c ρ).bind fun x => (wq x).bind fun a => (xY fn r ρ).map (a :: ·) := rfl
noncomputable def Xo : Option (Option SV) → Option D
  | some (some x) => x.cell
  | _ => none
@[simp] theorem zlM {i : Nat} : Zl ρ i = Xo ρ[i]? := by
  unfold Zl Xo
  rcases h : ρ[i]? with _ | _ | (d | ⟨_ | _, d⟩ | d) <;> rfl
@[simp] theorem zlN {d : D} : Xo (some (some (.obj true d))) = some d := rfl
@[simp] theorem zlO {d : D} : Xo (some (some (.io d))) = some d := rfl
@[simp] theorem zlP {i : Nat} {r : MA} : xY fn (.s i r) ρ = (Zl ρ i).bind fun d => if jq d then (xY fn r ρ).map (.s i d :: ·) else none := rfl
@[simp] theorem zlQ {t : Bool} {r : MA} : xY fn (.n t r) ρ = (xY fn r ρ).map (.n t :: ·) := rfl
@[simp] theorem zlR : xj ρ [] [] = some ρ := rfl
@[simp] theorem zlS {i : Nat} {d d' : D} {r : List AV} {ds : List D} : xj ρ (.s i d :: r) (d' :: ds) = xj (YN ρ i d') r ds := rfl
@[simp] theorem zlT {t : Bool} {d' : D} {r : List AV} {ds : List D} : xj ρ (.n t :: r) (d' :: ds) = xj ρ r ds := rfl
@[simp] theorem zlU {d : D} {r : List AV} {ds : List D} : xj ρ (.e d :: r) ds = xj ρ r ds := rfl
@[simp] theorem zlV {d : List D} {r : List AV} {ds : List D} : xj ρ (.l d :: r) ds = xj ρ r ds := rfl
noncomputable def Xp (ρ : Env) (i : Nat) (d : D) : Option (Option SV) → Env
  | some (some x) => ρ.set i (some (x.put d))
  | _ => ρ
@[simp] theorem zlW {i : Nat} {d : D} : YN ρ i d = Xp ρ i d ρ[i]? := by
  unfold YN Xp
  rcases h : ρ[i]? with _ | _ | (d | ⟨_ | _, d⟩ | d) <;> rfl
@[simp] theorem zlX {i : Nat} {d d0 : D} : Xp ρ i d (some (some (.obj true d0))) = ρ.set i (some (.obj true d)) := rfl
@[simp] theorem zlY {i : Nat} {d d0 : D} : Xp ρ i d (some (some (.io d0))) = ρ.set i (some (.io d)) := rfl
@[simp] theorem zlZ {d : D} : jr (.e d) = d := rfl
@[simp] theorem zl0 {d : List D} : jr (.l d) = .lst d := rfl
@[simp] theorem zl1 {i : Nat} {d : D} : jr (.s i d) = d := rfl
@[simp] theorem zl2 {t : Bool} : jr (.n t) = .dct t [] [] := rfl
@[simp] theorem zl3 {l : List D} : wq (.val (.tup l)) = if plain (.tup l) then some (.e (.tup l)) else none := rfl
@[simp] theorem zl4 {i : Int} : wq (.val (.int i)) = some (.e (.int i)) := by simp [wq, plain]
@[simp] theorem zl5 {i : Bool} : wq (.val (.bl i)) = some (.e (.bl i)) := by simp [wq, plain]
@[simp] theorem zl6 {l : List D} : wq (.val (.lst l)) = if yw l then some (.l l) else none := rfl
@[simp] theorem zl7 {o : Bool} {l : List D} : wq (.obj o (.lst l)) = if yw l then some (.l l) else none := rfl
@[simp] theorem zl8 {t : Bool} {ks vs : List D} : jq (.dct t ks vs) = yw vs := rfl
@[simp] theorem zl9 {t : Bool} {ks vs : List D} : xM (.dct t ks vs) = yw vs := rfl
@[simp] theorem zma {vs : List D} : xM (.lst vs) = yw vs := rfl
@[simp] theorem zmb {d : D} : SV.fine (.val d) = plain d := rfl
@[simp] theorem zmc {d : D} : SV.fine (.obj true d) = xM d := rfl
@[simp] theorem zmd {e : E} : zH fa fuel (.ret e) ρ = (zf (zA fa) e ρ).bind fun r => if r.lent then none else some (.rt r, ρ) := rfl
noncomputable def JJ (ρ : Env) (i : Nat) : Option (Option SV) → Option (Fl × Env)
  | some (some (.val d)) => some (.rt (.val d), ρ)
  | some (some (.obj _ d)) => some (.rt (.obj true d), ρ.set i none)
  | _ => none
@[simp] theorem zme {i : Nat} {d : D} : JJ ρ i (some (some (.val d))) = some (.rt (.val d), ρ) := rfl
@[simp] theorem zmf {i : Nat} {o : Bool} {d : D} : JJ ρ i (some (some (.obj o d))) = some (.rt (.obj true d), ρ.set i none) := rfl
@[simp] theorem zmg {i : Nat} : zH fa fuel (.retV i) ρ = JJ ρ i ρ[i]? := by
  rw [qe]
  rcases h : ρ[i]? with _ | _ | (d | ⟨o, d⟩ | d) <;> rfl
@[simp] theorem zmh : zH fa fuel .retN ρ = some (.rt (.val .non), ρ) := rfl
@[simp] theorem zmi {c : E} {a b : Ss} : zH fa fuel (.ifs c a b) ρ = (zx (zA fa) c ρ).bind fun k => if k then zv fa fuel a ρ else zv fa fuel b ρ := rfl
theorem va {i : Nat} {g : Bool} {src : Es} {body : Ss} : zH fa fuel (.for_ i g src body) ρ = (zN (zA fa) src ρ).bind fun rs => if rs.any SV.lent || !free ρ i then none else (zU g rs).bind fun ds => yq i (zv fa fuel body) ds ρ := rfl
@[simp] theorem zmj : kZ (.nx, ρ) = some (.nx, ρ) := rfl
noncomputable def Xq (ρ : Env) (j : Nat) : Option (Option SV) → Env
  | some (some (.obj true d)) => ρ.set j (some (.val d))
  | _ => ρ
@[simp] theorem zmk {j : Nat} : YO ρ j = Xq ρ j ρ[j]? := by
  unfold YO Xq
  rcases h : ρ[j]? with _ | _ | (d | ⟨_ | _, d⟩ | d) <;> rfl
@[simp] theorem zml {j : Nat} {d : D} : Xq ρ j (some (some (.val d))) = ρ := rfl
@[simp] theorem zmm {j : Nat} {d : D} : Xq ρ j (some (some (.obj true d))) = ρ.set j (some (.val d)) := rfl
@[simp] theorem zmn {js : List Nat} {s : S} : zH fa fuel (.frz js s) ρ = zH fa fuel s (js.foldl YO ρ) := rfl
@[simp] theorem zmo : zH fa fuel .brk ρ = some (.br, ρ) := rfl
@[simp] theorem zmp : zH fa fuel .cnt ρ = some (.ct, ρ) := rfl
@[simp] theorem zmq : zH fa fuel .pass ρ = some (.nx, ρ) := rfl
@[simp] theorem zmr : zH fa fuel .stop ρ = none := rfl
@[simp] theorem zms : zv fa fuel .nil ρ = some (.nx, ρ) := rfl
noncomputable def andThen (x : Fl × Env) (k : Env → Option (Fl × Env)) : Option (Fl × Env) := match x.1 with
  | .nx => k x.2
  | _ => some x
@[simp] theorem zmt {ρ : Env} {k : Env → Option (Fl × Env)} : andThen (.nx, ρ) k = k ρ := rfl
@[simp] theorem zmu {ρ : Env} {k : Env → Option (Fl × Env)} : andThen (.br, ρ) k = some (.br, ρ) := rfl
@[simp] theorem zmv {ρ : Env} {k : Env → Option (Fl × Env)} : andThen (.ct, ρ) k = some (.ct, ρ) := rfl
@[simp] theorem zmw {ρ : Env} {r : SV} {k : Env → Option (Fl × Env)} : andThen (.rt r, ρ) k = some (.rt r, ρ) := rfl
@[simp] theorem zgu {s : S} {ss : Ss} : zv fa fuel (.cons s ss) ρ = (zH fa fuel s ρ).bind fun x => andThen x (zv fa fuel ss) := by
  exact id rfl
noncomputable def vb : Option (Fl × Env) → Option SV
  | some (.rt r, _) => some r
  | some (.nx, _) => some (.val .non)
  | _ => none
@[simp] theorem zmx {r : SV} {ρ : Env} : vb (some (.rt r, ρ)) = some r := rfl
@[simp] theorem zmy {ρ : Env} : vb (some (.nx, ρ)) = some (.val .non) := rfl
@[simp] theorem zmz : vb none = none := rfl
@[simp] theorem zmA {c : Prop} [Decidable c] {a b : Option (Fl × Env)} : vb (if c then a else b) = if c then vb a else vb b := by split <;> rfl
end
noncomputable def jD : Option (Option SV) → Option SV
  | some (some (.val d)) => some (.val d)
  | some (some (.obj _ d)) => some (.obj false d)
  | some (some (.io d)) => some (.obj false d)
  | _ => none
@[simp] theorem zmB {ρ : Env} {i : Nat} : look ρ i = jD ρ[i]? := by
  unfold look jD
  rcases h : ρ[i]? with _ | _ | (d | ⟨o, d⟩ | d) <;> rfl
@[simp] theorem zmC {d : D} : jD (some (some (.val d))) = some (.val d) := rfl
@[simp] theorem zmD {o : Bool} {d : D} : jD (some (some (.obj o d))) = some (.obj false d) := rfl
@[simp] theorem zmE {d : D} : jD (some (some (.io d))) = some (.obj false d) := rfl
@[simp] theorem zmF : jD (some none) = none := rfl
@[simp] theorem zgv {d : D} : zu (.val d) = d := rfl
@[simp] theorem JK {o : Bool} {d : D} : zu (.obj o d) = d := rfl
@[simp] theorem zgw {d : D} : toD (.val d) = some d := rfl
@[simp] theorem zmG {d : D} : toD (.obj true d) = some d := rfl
@[simp] theorem zmH : xi [] = some [] := rfl
@[simp] theorem zmI {r : SV} {rs : List SV} : xi (r :: rs) = (toD r).bind fun d => (xi rs).map (d :: ·) := rfl
@[simp] theorem zmJ {d : D} : SV.lent (.val d) = false := rfl
@[simp] theorem zmK {d : D} : SV.lent (.obj true d) = false := rfl
@[simp] theorem zmL {d : D} : SV.lent (.obj false d) = true := rfl
@[simp] theorem zmM {i : Int} : yb i = some (.val (.int i)) := rfl
@[simp] theorem zmN {i : Bool} : ye i = some (.val (.bl i)) := rfl
@[simp] theorem zmO {b : Bool} : yc (.val (.bl b)) = some b := rfl
@[simp] theorem zmP {i : Int} : yc (.val (.int i)) = some (i != 0) := rfl
@[simp] theorem zmQ : yc (.val .non) = some false := rfl
@[simp] theorem zmR {l : List D} : yc (.val (.tup l)) = some (!l.isEmpty) := rfl
@[simp] theorem zmS {l : List D} : yc (.val (.lst l)) = some (!l.isEmpty) := rfl
@[simp] theorem zmT {o : Bool} {l : List D} : yc (.obj o (.lst l)) = some (!l.isEmpty) := rfl
theorem zgx {rs : List SV} {r : Option SV} (h : rs.any SV.lent = false) : xO rs r = r := by
  unfold xO; rw [h]; cases r <;> rfl
theorem zgy {rs : List SV} {x : SV} (h : x.plain = true) : xO rs (some x) = some x := by
  unfold xO; simp [h]
@[simp] theorem zmU {rs : List SV} {x : Option SV} (h : rs.any SV.lent = false) : xO rs x = x := zgx h
@[simp] theorem zmV {rs : List SV} {x : SV} (h : x.plain = true) : xO rs (some x) = some x := zgy h
@[simp] theorem zmW {d : D} : SV.plain (.val d) = plain d := rfl
@[simp] theorem zmX {o : Bool} {d : D} : SV.plain (.obj o d) = xM d := rfl
@[simp] theorem zmY {i : Int} : plain (.int i) = true := by simp [plain]
@[simp] theorem zmZ {i : Bool} : plain (.bl i) = true := by simp [plain]
@[simp] theorem zm0 : plain .non = true := by simp [plain]
@[simp] theorem zm1 {i : Str} : plain (.str i) = true := by simp [plain]
@[simp] theorem zm2 {l : List D} : plain (.tup l) = yw l := rfl
@[simp] theorem zm3 {l : List D} : plain (.lst l) = false := rfl
@[simp] theorem zm4 {t : Bool} {a b : List D} : plain (.dct t a b) = false := rfl
@[simp] theorem zm5 : yw [] = true := rfl
@[simp] theorem zm6 {x : D} {xs : List D} : yw (x :: xs) = (plain x && yw xs) := rfl
@[simp] theorem zm7 {P : Nat → Option Fn} {fuel n : Nat} : zA (zn P fuel n) = zQ P fuel n := rfl
theorem JL : ∀ (k : Nat) (ds : List D), xk [] k ds = ds.map fun d => some (.val d)
  | _, [] => rfl
  | k, d :: r => by simp [xk, JL (k + 1) r]
theorem zgz (x : Option (Fl × Env)) : (match vI [] x with | some (.ok r []) => some r | _ => none) = vb x := by
  rcases x with _ | ⟨_ | _ | _ | r, ρ⟩ <;> rfl
theorem zgA {P : Nat → Option Fn} {fuel n i : Nat} {F : Fn} {ds : List D} (h : P i = some F) (hl : ds.length = F.np) (hio : F.io = []) (hx : F.xb = none := by rfl) :
    zQ P fuel (n + 1) i ds = vb (zv (zn P fuel n) fuel F.body (ds.map (fun d => some (.val d)) ++ List.replicate (F.nl - F.np) none)) := by
  unfold zQ zA
  rw [zn, h]
  simp only [Option.bind_some, if_pos hl, hio, JL, hx]
  exact zgz _
@[simp] theorem zm8 {a b : Int} : zb .add [.int a, .int b] = some (.val (.int (a + b))) := rfl
theorem gL {a b : List D} (h : a.length + b.length ≤ line) : zb .add [.lst a, .lst b] = some (.obj true (.lst (a ++ b))) := by simp only [zb, YA, if_pos h]
@[simp] theorem zm9 {a b : Int} : zb .sub [.int a, .int b] = some (.val (.int (a - b))) := rfl
theorem zgB {a b : Int} (h : -(2 ^ 64) < b ∧ b < 2 ^ 64) : zb .mul [.int a, .int b] = some (.val (.int (a * b))) := by simp only [zb, YB, if_pos (Or.inr h : (-(2 ^ 64) < a ∧ a < 2 ^ 64) ∨ _), yb]
theorem vc {a b : Int} (h : 0 < b) : zb .mod [.int a, .int b] = some (.val (.int (a % b))) := by simp only [zb, YC, if_pos h, yb]
@[simp] theorem zna {a : Int} : zb .neg [.int a] = some (.val (.int (-a))) := rfl
theorem gM {a b : D} (h : zE 8 a = true) (h' : zE 8 b = true) : zb .eq [a, b] = some (.val (.bl (zT a b))) := by simp [zb, Zb, h, h']
theorem zgC {a b : D} (h : zE 8 a = true) (h' : zE 8 b = true) : zb .ne [a, b] = some (.val (.bl (!zT a b))) := by simp [zb, Zc, h, h']
@[simp] theorem znb {a b : Int} : zb .eq [.int a, .int b] = some (.val (.bl (a == b))) := by rw [gM rfl rfl, zT]
@[simp] theorem znc {a b : Int} : zb .ne [.int a, .int b] = some (.val (.bl (a != b))) := by rw [zgC rfl rfl, zT]; rfl
@[simp] theorem znd {a b : Int} : zb .lt [.int a, .int b] = some (.val (.bl (decide (a < b)))) := rfl
@[simp] theorem zne {a b : Int} : zb .le [.int a, .int b] = some (.val (.bl (decide (a ≤ b)))) := rfl
@[simp] theorem znf {a b : Int} : zb .gt [.int a, .int b] = some (.val (.bl (decide (b < a)))) := rfl
@[simp] theorem zng {a b : Int} : zb .ge [.int a, .int b] = some (.val (.bl (decide (b ≤ a)))) := rfl
@[simp] theorem znh {d : D} : zb .isN [d] = some (.val (.bl (wO d))) := rfl
@[simp] theorem zni {d : D} : zb .notN [d] = some (.val (.bl (!wO d))) := rfl
@[simp] theorem znj {l : List D} : zb .len [.tup l] = some (.val (.int l.length)) := rfl
@[simp] theorem znk {l : List D} : zb .len [.lst l] = some (.val (.int l.length)) := rfl
@[simp] theorem znl {i : Int} : zb .abs [.int i] = some (.val (.int (if i < 0 then -i else i))) := rfl
@[simp] theorem znm {i j : Int} : zb .min2 [.int i, .int j] = some (.val (.int (if j < i then j else i))) := rfl
@[simp] theorem znn {i j : Int} : zb .max2 [.int i, .int j] = some (.val (.int (if j > i then j else i))) := rfl
theorem zgD {n : Int} {r : List Int} : zb .maxL [.lst ((n :: r).map D.int)] = some (.val (.int (r.foldl max n))) := by
  have : ∀ l : List Int, ints? (l.map D.int) = some l := fun l => by induction l with
    | nil => rfl
    | cons x l ih => simp [ints?, ih]
  simp only [zb, YM, this, Option.bind_some, yb]
@[simp] theorem zgE {b : Bool} : zb .intOf [.bl b] = some (.val (.int (if b then 1 else 0))) := rfl
@[simp] theorem zno {b : Int} : zb .intOf [.int b] = some (.val (.int b)) := rfl
@[simp] theorem znp {l : List D} : zb .toList [.tup l] = some (.obj true (.lst l)) := rfl
@[simp] theorem znq {l : List D} : zb .toList [.lst l] = some (.obj true (.lst l)) := rfl
@[simp] theorem znr {l : List D} : zb .toTup [.tup l] = some (.val (.tup l)) := rfl
@[simp] theorem zns {l : List D} : zb .toTup [.lst l] = some (.val (.tup l)) := rfl
@[simp] theorem znt {t : Ty} {d : D} : zb (.inst t) [d] = some (.val (.bl (wp t d))) := rfl
theorem gN {l : List D} {i : Int} : zb .idx [.tup l, .int i] = (atI l i).map .val := rfl
theorem JM {l : List D} {i : Int} : zb .idx [.lst l, .int i] = (atI l i).map .val := rfl
theorem atI_nat {α : Type} {l : List α} {k : Nat} (h : k < l.length) : atI l (k : Int) = some l[k] := by
  unfold atI ixN
  rw [if_pos (by omega), if_pos (by omega)]
  simp [h]
@[simp] theorem znu {a b : D} : zb .idx [.tup [a, b], .int 0] = some (.val a) := rfl
@[simp] theorem znv {a b : D} : zb .idx [.tup [a, b], .int 1] = some (.val b) := rfl
@[simp] theorem znw {b : Bool} : wp .bool (.bl b) = true := rfl
@[simp] theorem znx {b : Int} : wp .bool (.int b) = false := rfl
@[simp] theorem zny {b : Int} : wp .int (.int b) = true := rfl
@[simp] theorem znz {l : List D} : wp .tuple (.tup l) = true := rfl
@[simp] theorem znA {l : List D} : wp .list (.lst l) = true := rfl
@[simp] theorem znB : wO .non = true := rfl
@[simp] theorem znC {i : Int} : wO (.int i) = false := rfl
@[simp] theorem znD {l : List D} : wO (.tup l) = false := rfl
@[simp] theorem znE {l : List D} : wO (.lst l) = false := rfl
theorem gO {α : Type} {f : α → D} {test : D → Option Bool} {elt : D → Option SV} {t : α → Bool} {e : α → D} : ∀ {xs : List α}, (∀ x ∈ xs, test (f x) = some (t x)) → (∀ x ∈ xs, t x = true → (elt (f x)).bind toD = some (e x)) →
    yH test elt (xs.map f) = some ((xs.filter t).map e)
  | [], _, _ => rfl
  | d :: r, h1, h2 => by
    have ih := gO (xs := r) (fun x hx => h1 x (List.mem_cons_of_mem _ hx)) (fun x hx => h2 x (List.mem_cons_of_mem _ hx))
    rw [List.map_cons, yH, h1 d List.mem_cons_self]
    simp only [Option.bind_some]
    cases ht : t d with
    | false => simp [ih, ht]
    | true =>
      have h3 := h2 d List.mem_cons_self ht
      rw [jo1] at h3
      obtain ⟨x, e1, e2⟩ := h3
      simp [ih, ht, e1, e2]
theorem JN {fn : Nat → List D → Option SV} {ρ : Env} {g : Bool} {src : Es} {cond elt : E} {rs : List SV} {α : Type} {f : α → D} {xs : List α} (t : α → Bool) (e : α → D) (h : zN fn src ρ = some rs) (hi : zU g rs = some (xs.map f)) (hl : xs.length ≤ line)
    (ht : ∀ x ∈ xs, zx fn cond (some (.val (f x)) :: ρ) = some (t x)) (he : ∀ x ∈ xs, t x = true → (zf fn elt (some (.val (f x)) :: ρ)).bind toD = some (e x)) :
    zf fn (.comp g src cond elt) ρ = some (.obj true (.lst ((xs.filter t).map e))) := by
  rw [zgp, h]
  simp only [Option.bind_some, hi, List.length_map, if_pos hl]
  rw [gO ht he]; rfl
theorem wG {fn : Nat → List D → Option SV} {ρ : Env} {g : Bool} {src : Es} {elt : E} {rs : List SV} {α : Type} {f : α → D} {xs : List α} (e : α → D) (h : zN fn src ρ = some rs) (hi : zU g rs = some (xs.map f)) (hl : xs.length ≤ line)
    (he : ∀ x ∈ xs, (zf fn elt (some (.val (f x)) :: ρ)).bind toD = some (e x)) :
    zf fn (.comp g src (.bl true) elt) ρ = some (.obj true (.lst (xs.map e))) := by
  have := JN (fun _ => true) e h hi hl (fun _ _ => zgq) (fun x hx _ => he x hx)
  have e2 : xs.filter (fun _ => true) = xs := List.filter_eq_self.mpr fun _ _ => rfl
  rwa [e2] at this
theorem gP {i : Nat} {body : Env → Option (Fl × Env)} (I : List D → Env → Prop) {ds : List D} : ∀ {post pre : List D} {ρ : Env}, ds = pre ++ post → I pre ρ →
    (∀ pre d post ρ, ds = pre ++ d :: post → I pre ρ → ∃ fl ρ', body (ρ.set i (some (.val d))) = some (fl, ρ') ∧ (fl = .nx ∨ fl = .ct) ∧ I (pre ++ [d]) ρ') →
    ∃ ρ', yq i body post ρ = some (.nx, ρ') ∧ I ds ρ'
  | [], pre, ρ, e, h, _ => ⟨ρ, rfl, by rw [e]; simpa using h⟩
  | d :: post, pre, ρ, e, h, st => by
    obtain ⟨fl, ρ1, e1, e2, h1⟩ := st pre d post ρ e h
    obtain ⟨ρ', e3, h3⟩ := gP I (ds := ds) (post := post) (pre := pre ++ [d]) (ρ := ρ1) (by simp [e]) h1 st
    refine ⟨ρ', ?_, h3⟩
    rw [yq, e1]
    simp only [Option.bind_some]
    rcases e2 with rfl | rfl <;> exact e3
theorem gQ {i : Nat} {body : Env → Option (Fl × Env)} (I : List D → Env → Prop) (Q : SV → Prop) {ds : List D} : ∀ {post pre : List D} {ρ : Env}, ds = pre ++ post → I pre ρ →
    (∀ pre d post ρ, ds = pre ++ d :: post → I pre ρ → ∃ fl ρ', body (ρ.set i (some (.val d))) = some (fl, ρ') ∧ (((fl = .nx ∨ fl = .ct) ∧ I (pre ++ [d]) ρ') ∨ ∃ r, fl = .rt r ∧ Q r)) →
    ∃ fl ρ', yq i body post ρ = some (fl, ρ') ∧ ((fl = .nx ∧ I ds ρ') ∨ ∃ r, fl = .rt r ∧ Q r)
  | [], pre, ρ, e, h, _ => ⟨_, ρ, rfl, .inl ⟨rfl, by rw [e]; simpa using h⟩⟩
  | d :: post, pre, ρ, e, h, st => by
    obtain ⟨fl, ρ1, e1, e2⟩ := st pre d post ρ e h
    rcases e2 with ⟨e2, h1⟩ | ⟨r, rfl, q⟩
    · obtain ⟨fl', ρ', e3, h3⟩ := gQ I Q (ds := ds) (post := post) (pre := pre ++ [d]) (ρ := ρ1) (by simp [e]) h1 st
      refine ⟨fl', ρ', ?_, h3⟩
      rw [yq, e1]
      simp only [Option.bind_some]
      rcases e2 with rfl | rfl <;> exact e3
    · refine ⟨_, ρ1, ?_, .inr ⟨r, rfl, q⟩⟩
      rw [yq, e1]; rfl
theorem zgF {i : Nat} {body : Env → Option (Fl × Env)} (I : Nat → Env → Prop) {ds : List D} {ρ : Env} (h0 : I 0 ρ)
    (st : ∀ k ρ (hk : k < ds.length), I k ρ → ∃ fl ρ', body (ρ.set i (some (.val ds[k]))) = some (fl, ρ') ∧ (fl = .nx ∨ fl = .ct) ∧ I (k + 1) ρ') :
    ∃ ρ', yq i body ds ρ = some (.nx, ρ') ∧ I ds.length ρ' := by
  refine gP (fun pre ρ => I pre.length ρ) (ds := ds) (post := ds) (pre := []) rfl h0 fun pre d post ρ e h => ?_
  subst e
  have hk : pre.length < (pre ++ d :: post).length := by simp
  obtain ⟨fl, ρ', h1, h2, h3⟩ := st pre.length ρ hk h
  refine ⟨fl, ρ', ?_, h2, by simpa using h3⟩
  rw [← h1]; simp
theorem zgG {i : Nat} {body : Env → Option (Fl × Env)} (I : Nat → Env → Prop) (Q : SV → Prop) {ds : List D} {ρ : Env} (h0 : I 0 ρ)
    (st : ∀ k ρ (hk : k < ds.length), I k ρ → ∃ fl ρ', body (ρ.set i (some (.val ds[k]))) = some (fl, ρ') ∧ (((fl = .nx ∨ fl = .ct) ∧ I (k + 1) ρ') ∨ ∃ r, fl = .rt r ∧ Q r)) :
    ∃ fl ρ', yq i body ds ρ = some (fl, ρ') ∧ ((fl = .nx ∧ I ds.length ρ') ∨ ∃ r, fl = .rt r ∧ Q r) := by
  refine gQ (fun pre ρ => I pre.length ρ) Q (ds := ds) (post := ds) (pre := []) rfl h0 fun pre d post ρ e h => ?_
  subst e
  have hk : pre.length < (pre ++ d :: post).length := by simp
  obtain ⟨fl, ρ', h1, h2⟩ := st pre.length ρ hk h
  refine ⟨fl, ρ', ?_, by simpa using h2⟩
  rw [← h1]; simp
theorem zgH {i : Nat} {body : Env → Option (Fl × Env)} {α : Type} {f : α → D} {xs : List α} (I : Nat → Env → Prop) {ρ : Env} (h0 : I 0 ρ)
    (st : ∀ k ρ (hk : k < xs.length), I k ρ → ∃ fl ρ', body (ρ.set i (some (.val (f xs[k])))) = some (fl, ρ') ∧ (fl = .nx ∨ fl = .ct) ∧ I (k + 1) ρ') :
    ∃ ρ', yq i body (xs.map f) ρ = some (.nx, ρ') ∧ I xs.length ρ' := by
  have := zgF (i := i) (body := body) I (ds := xs.map f) (ρ := ρ) h0 fun k ρ hk h => by
    obtain ⟨fl, ρ', h1, h2⟩ := st k ρ (by simpa using hk) h
    exact ⟨fl, ρ', by rw [List.getElem_map]; exact h1, h2⟩
  simpa using this
theorem zgI {i : Nat} {body : Env → Option (Fl × Env)} {α : Type} {f : α → D} {xs : List α} (I : Nat → Env → Prop) (Q : SV → Prop) {ρ : Env} (h0 : I 0 ρ)
    (st : ∀ k ρ (hk : k < xs.length), I k ρ → ∃ fl ρ', body (ρ.set i (some (.val (f xs[k])))) = some (fl, ρ') ∧ (((fl = .nx ∨ fl = .ct) ∧ I (k + 1) ρ') ∨ ∃ r, fl = .rt r ∧ Q r)) :
    ∃ fl ρ', yq i body (xs.map f) ρ = some (fl, ρ') ∧ ((fl = .nx ∧ I xs.length ρ') ∨ ∃ r, fl = .rt r ∧ Q r) := by
  have := zgG (i := i) (body := body) I Q (ds := xs.map f) (ρ := ρ) h0 fun k ρ hk h => by
    obtain ⟨fl, ρ', h1, h2⟩ := st k ρ (by simpa using hk) h
    exact ⟨fl, ρ', by rw [List.getElem_map]; exact h1, h2⟩
  simpa using this
theorem JO {i : Nat} {body : Env → Option (Fl × Env)} (I : Nat → Env → Prop) {a : Int} {m : Nat} {ρ : Env} (h0 : I 0 ρ)
    (st : ∀ k ρ, k < m → I k ρ → ∃ fl ρ', body (ρ.set i (some (.val (.int (a + (k : Int)))))) = some (fl, ρ') ∧ (fl = .nx ∨ fl = .ct) ∧ I (k + 1) ρ') :
    ∃ ρ', yq i body ((List.range m).map fun (k : Nat) => D.int (a + (k : Int))) ρ = some (.nx, ρ') ∧ I m ρ' := by
  have := zgH (i := i) (body := body) (f := fun (k : Nat) => D.int (a + (k : Int))) (xs := List.range m) I (ρ := ρ) h0 fun k ρ hk h => by
    obtain ⟨fl, ρ', h1, h2⟩ := st k ρ (by simpa using hk) h
    exact ⟨fl, ρ', by rw [List.getElem_range]; exact h1, h2⟩
  simpa using this
theorem zgJ {i : Nat} {body : Env → Option (Fl × Env)} (I : Nat → Env → Prop) (Q : SV → Prop) {a : Int} {m : Nat} {ρ : Env} (h0 : I 0 ρ)
    (st : ∀ k ρ, k < m → I k ρ → ∃ fl ρ', body (ρ.set i (some (.val (.int (a + (k : Int)))))) = some (fl, ρ') ∧ (((fl = .nx ∨ fl = .ct) ∧ I (k + 1) ρ') ∨ ∃ r, fl = .rt r ∧ Q r)) :
    ∃ fl ρ', yq i body ((List.range m).map fun (k : Nat) => D.int (a + (k : Int))) ρ = some (fl, ρ') ∧ ((fl = .nx ∧ I m ρ') ∨ ∃ r, fl = .rt r ∧ Q r) := by
  have := zgI (i := i) (body := body) (f := fun (k : Nat) => D.int (a + (k : Int))) (xs := List.range m) I Q (ρ := ρ) h0 fun k ρ hk h => by
    obtain ⟨fl, ρ', h1, h2⟩ := st k ρ (by simpa using hk) h
    exact ⟨fl, ρ', by rw [List.getElem_range]; exact h1, h2⟩
  simpa using this
section
variable {fa : Nat → List D → Option Ans} {fuel : Nat} {ρ : Env}
noncomputable def Xr (k : Env → Option (FlX × Env)) : FlX × Env → Option (FlX × Env)
  | (.fl .nx, ρ) => k ρ
  | x => some x
@[simp] theorem znF {k : Env → Option (FlX × Env)} : Xr k (.fl .nx, ρ) = k ρ := rfl
@[simp] theorem znG {k : Env → Option (FlX × Env)} {r : SV} : Xr k (.fl (.rt r), ρ) = some (.fl (.rt r), ρ) := rfl
@[simp] theorem znH {k : Env → Option (FlX × Env)} {c : Nat} : Xr k (.ex c, ρ) = some (.ex c, ρ) := rfl
@[simp] theorem znI : zS fa fuel .nil ρ = some (.fl .nx, ρ) := by rw [zS]
@[simp] theorem znJ {t : T} {ts : Ts} : zS fa fuel (.cons t ts) ρ = (zY fa fuel t ρ).bind (Xr (zS fa fuel ts)) := by
  rw [zS]
  congr 1
  funext x
  rcases x with ⟨⟨_ | _ | _ | _⟩ | _, _⟩ <;> rfl
@[simp] theorem znK {s : S} : zY fa fuel (.pl s) ρ = (zH fa fuel s ρ).map fun x => (.fl x.1, x.2) := by rw [zY]
@[simp] theorem znL {c : Nat} : zY fa fuel (.raise c) ρ = some (.ex c, ρ) := by rw [zY]
@[simp] theorem znM : zY fa fuel .stuck ρ = none := by rw [zY]
@[simp] theorem znN {c : E} {a b : Ts} : zY fa fuel (.ifs c a b) ρ = (zx (zA fa) c ρ).bind fun k => if k then zS fa fuel a ρ else zS fa fuel b ρ := by rw [zY]
noncomputable def JP (ρ : Env) : Ans → Option (FlX × Env)
  | .ok _ [] => some (.fl .nx, ρ)
  | .ex c => some (.ex c, ρ)
  | _ => none
@[simp] theorem znO {r : SV} : JP ρ (.ok r []) = some (.fl .nx, ρ) := rfl
@[simp] theorem znP {c : Nat} : JP ρ (.ex c) = some (.ex c, ρ) := rfl
@[simp] theorem znQ {i : Nat} {es : Es} : zY fa fuel (.callX i es) ρ = (wr fa i es ρ).bind (JP ρ) := by rw [zY]; rfl
noncomputable def JQ (ρ : Env) : Ans → Option (FlX × Env)
  | .ok r [] => if r.lent then none else some (.fl (.rt r), ρ)
  | .ex c => some (.ex c, ρ)
  | _ => none
@[simp] theorem znR {r : SV} : JQ ρ (.ok r []) = if r.lent then none else some (.fl (.rt r), ρ) := rfl
@[simp] theorem znS {c : Nat} : JQ ρ (.ex c) = some (.ex c, ρ) := rfl
@[simp] theorem znT {i : Nat} {es : Es} : zY fa fuel (.retX i es) ρ = (wr fa i es ρ).bind (JQ ρ) := by rw [zY]; rfl
noncomputable def gR (k : Nat) (ρ : Env) : Ans → Option (FlX × Env)
  | .ok r [] => if r.lent || !free ρ k then none else some (.fl .nx, ρ.set k (some r))
  | .ex c => some (.ex c, ρ)
  | _ => none
@[simp] theorem znU {k c : Nat} : gR k ρ (.ex c) = some (.ex c, ρ) := rfl
@[simp] theorem znV {k i : Nat} {es : Es} : zY fa fuel (.asgX k i es) ρ = (wr fa i es ρ).bind (gR k ρ) := by rw [zY]; rfl
noncomputable def gS (neg : Bool) (a b : Option (FlX × Env)) (ρ : Env) : Ans → Option (FlX × Env)
  | .ok (.val (.bl k)) [] => if k != neg then a else b
  | .ex c => some (.ex c, ρ)
  | _ => none
@[simp] theorem znW {neg : Bool} {a b : Option (FlX × Env)} {c : Nat} : gS neg a b ρ (.ex c) = some (.ex c, ρ) := rfl
@[simp] theorem znX {neg : Bool} {i : Nat} {es : Es} {a b : Ts} : zY fa fuel (.ifX neg i es a b) ρ = (wr fa i es ρ).bind (gS neg (zS fa fuel a ρ) (zS fa fuel b ρ) ρ) := by rw [zY]; rfl
noncomputable def JR (cs : List Nat) (h : Hd) : FlX × Env → Option (FlX × Env)
  | (.ex c, ρ) => if cs.contains c then Zm c ρ h else none
  | x => some x
@[simp] theorem znY {cs : List Nat} {h : Hd} {f : Fl} : JR cs h (.fl f, ρ) = some (.fl f, ρ) := rfl
@[simp] theorem znZ {cs : List Nat} {h : Hd} {c : Nat} : JR cs h (.ex c, ρ) = if cs.contains c then Zm c ρ h else none := rfl
@[simp] theorem zn0 {b : Ts} {k : Nat} {cs : List Nat} {h : Hd} : zY fa fuel (.tryX b k cs h) ρ = (zS fa fuel b ρ).bind (JR cs h) := by
  rw [zY]
  congr 1
  funext x
  rcases x with ⟨_ | _, _⟩ <;> rfl
@[simp] theorem zn1 {i : Nat} {es : Es} : wr fa i es ρ = (zN (zA fa) es ρ).bind fun rs => if rs.any SV.lent then none else fa i (rs.map zu) := rfl
@[simp] theorem zn2 {r : SV} : wR (some (.fl (.rt r), ρ)) = some (.ok r []) := rfl
@[simp] theorem zn3 : wR (some (.fl .nx, ρ)) = some (.ok (.val .non) []) := rfl
@[simp] theorem zn4 {c : Nat} : wR (some (.ex c, ρ)) = some (.ex c) := rfl
theorem Xt {P : Nat → Option Fn} {n i : Nat} {F : Fn} {t : Ts} {ds : List D} (h : P i = some F) (hl : ds.length = F.np) (hx : F.xb = some t) :
    zn P fuel (n + 1) i ds = wR (zS (zn P fuel n) fuel t (ds.map (fun d => some (.val d)) ++ List.replicate (F.nl - F.np) none)) := by
  rw [zn, h]
  simp only [Option.bind_some, if_pos hl, hx, JL]
theorem gT {P : Nat → Option Fn} {n i : Nat} {ds : List D} {r : SV} (h : zn P fuel n i ds = some (.ok r [])) : zQ P fuel n i ds = some r := by
  unfold zQ zA; rw [h]
end
end L2.LW
namespace LK
open L2.LW
noncomputable def ZB : Ss := (.cons (.ifs (.or (.prim (.inst .bool) (.cons (.var 0) .nil)) (.not (.prim (.inst .int) (.cons (.var 0) .nil)))) (.cons (.ret (.bl false))
    .nil) .nil)
    (.cons (.ret (.chain .le .le (.var 1) (.var 0) (.var 2)))
    .nil))
noncomputable def ZC : Ss := (.cons (.ret (.and (.prim (.inst .tuple) (.cons (.var 0) .nil)) (.prim .eq (.cons (.prim .len (.cons (.var 0) .nil)) (.cons (.int 2) .nil)))))
    .nil)
noncomputable def jE : Ss := (.cons (.ret (.and (.call 1 (.cons (.var 0) .nil)) (.and (.call 0 (.cons (.prim .idx (.cons (.var 0) (.cons (.int 0) .nil))) (.cons (.int 0) (.cons (.int 7) .nil)))) (.call 0 (.cons (.prim .idx (.cons (.var 0) (.cons (.int 1) .nil))) (.cons (.int 0) (.cons (.int 7) .nil)))))))
    .nil)
noncomputable def ZD : Ss := (.cons (.ret (.prim .all (.cons (.comp true (.cons (.int 1) (.cons (.prim .len (.cons (.var 0) .nil)) .nil)) (.bl true) (.prim .lt (.cons (.prim .idx (.cons (.var 1) (.cons (.prim .sub (.cons (.var 0) (.cons (.int 1) .nil))) .nil))) (.cons (.prim .idx (.cons (.var 1) (.cons (.var 0) .nil))) .nil)))) .nil)))
    .nil)
noncomputable def vQ : Ss := (.cons (.ifs (.or (.not (.prim (.inst .tuple) (.cons (.var 0) .nil))) (.not (.chain .le .le (.int 1) (.prim .len (.cons (.var 0) .nil)) (.int 24)))) (.cons (.ret (.bl false))
    .nil) .nil)
    (.cons (.ret (.and (.prim .all (.cons (.comp false (.cons (.var 0) .nil) (.bl true) (.call 2 (.cons (.var 0) .nil))) .nil)) (.call 4 (.cons (.var 0) .nil))))
    .nil))
noncomputable def ZE : Ss := (.cons (.ifs (.not (.call 5 (.cons (.var 0) .nil))) (.cons .stop
    .nil) .nil)
    (.cons (.retV 0)
    .nil))
noncomputable def ZF : Ss := (.cons (.ifs (.prim .lt (.cons (.var 1) (.cons (.prim .len (.cons (.var 0) .nil)) .nil))) (.cons (.ret (.prim .idx (.cons (.var 0) (.cons (.var 1) .nil))))
    .nil) .nil)
    (.cons (.ret (.int 0))
    .nil))
noncomputable def ZG : Ss := (.cons (.ret (.prim .mod (.cons (.prim .mod (.cons (.prim .mul (.cons (.var 0) (.cons (.int 48271) .nil))) (.cons (.var 1) .nil))) (.cons (.var 2) .nil))))
    .nil)
noncomputable def Xu : Ss := (.cons (.asg 12 (.prim .add (.cons (.prim .add (.cons (.call 13 (.cons (.var 0) (.cons (.prim .add (.cons (.prim .add (.cons (.var 1) (.cons (.int 2) .nil))) (.cons (.prim .mod (.cons (.prim .add (.cons (.var 10) (.cons (.prim .mul (.cons (.int 2) (.cons (.var 11) .nil))) .nil))) (.cons (.int 7) .nil))) .nil))) .nil))) (.cons (.prim .mul (.cons (.prim .mul (.cons (.int 31) (.cons (.var 10) .nil))) (.cons (.var 10) .nil))) .nil))) (.cons (.prim .mul (.cons (.prim .mul (.cons (.int 57) (.cons (.var 11) .nil))) (.cons (.var 11) .nil))) .nil))))
    (.cons (.ifs (.or (.prim .eq (.cons (.var 8) (.cons (.int 0) .nil))) (.prim .gt (.cons (.call 14 (.cons (.var 12) (.cons (.int 9931) (.cons (.prim .idx (.cons (.lst (.cons (.int 2) (.cons (.int 4) (.cons (.int 7) .nil)))) (.cons (.prim .sub (.cons (.var 8) (.cons (.int 1) .nil))) .nil))) .nil)))) (.cons (.int 0) .nil)))) (.cons (.app 9 (.tup (.cons (.prim .add (.cons (.var 6) (.cons (.var 10) .nil))) (.cons (.prim .add (.cons (.var 7) (.cons (.var 11) .nil))) .nil))))
    .nil) .nil)
    .nil))
noncomputable def ZH : Ss := (.cons (.for_ 11 true (.cons (.var 5) .nil) Xu)
    .nil)
noncomputable def ZI : Ss := (.cons (.asg 3 (.call 13 (.cons (.var 0) (.cons (.var 1) .nil))))
    (.cons (.asg 4 (.prim .add (.cons (.int 1) (.cons (.call 14 (.cons (.var 3) (.cons (.int 9973) (.cons (.int 5) .nil)))) .nil))))
    (.cons (.asg 5 (.prim .add (.cons (.int 1) (.cons (.call 14 (.cons (.var 3) (.cons (.int 9967) (.cons (.int 6) .nil)))) .nil))))
    (.cons (.asg 6 (.call 14 (.cons (.call 13 (.cons (.var 0) (.cons (.prim .add (.cons (.var 1) (.cons (.int 1) .nil))) .nil))) (.cons (.int 9949) (.cons (.prim .sub (.cons (.int 9) (.cons (.var 4) .nil))) .nil)))))
    (.cons (.asg 7 (.call 14 (.cons (.call 13 (.cons (.var 0) (.cons (.prim .add (.cons (.var 1) (.cons (.int 1) .nil))) .nil))) (.cons (.int 9941) (.cons (.prim .sub (.cons (.int 9) (.cons (.var 5) .nil))) .nil)))))
    (.cons (.asg 8 (.call 14 (.cons (.prim .add (.cons (.var 3) (.cons (.int 3) .nil))) (.cons (.int 9907) (.cons (.int 4) .nil)))))
    (.cons (.asg 9 (.lst .nil))
    (.cons (.for_ 10 true (.cons (.var 4) .nil) ZH)
    (.cons (.ifs (.not (.var 9)) (.cons (.asg 9 (.lst (.cons (.tup (.cons (.var 6) (.cons (.var 7) .nil))) .nil)))
    .nil) .nil)
    (.cons (.ret (.prim .toTup (.cons (.prim .cutTo (.cons (.var 9) (.cons (.var 2) .nil))) .nil)))
    .nil))))))))))
noncomputable def ZJ : Ss := (.cons (.ret (.prim .addS (.cons (.prim .join0 (.cons (.comp true (.cons (.var 2) .nil) (.bl true) (.ite (.prim .inn (.cons (.tup (.cons (.var 2) (.cons (.var 0) .nil))) (.cons (.var 1) .nil))) (.str "#") (.str "."))) .nil)) (.cons (.str "\n") .nil))))
    .nil)
noncomputable def ZK : Ss := (.cons (.expr (.call 6 (.cons (.var 0) .nil)))
    (.cons (.asg 1 (.prim .add (.cons (.prim .maxL (.cons (.comp false (.cons (.var 0) .nil) (.bl true) (.prim .idx (.cons (.var 0) (.cons (.int 1) .nil)))) .nil)) (.cons (.int 1) .nil))))
    (.cons (.ret (.prim .join0 (.cons (.comp true (.cons (.prim .add (.cons (.prim .idx (.cons (.prim .idx (.cons (.var 0) (.cons (.prim .neg (.cons (.int 1) .nil)) .nil))) (.cons (.int 0) .nil))) (.cons (.int 1) .nil))) .nil) (.bl true) (.call 86 (.cons (.var 1) (.cons (.var 0) (.cons (.var 2) .nil))))) .nil)))
    .nil)))
noncomputable def ZL : Ss := (.cons (.ifs (.prim .eqS (.cons (.var 5) (.cons (.str "#") .nil))) (.cons (.app 1 (.tup (.cons (.var 2) (.cons (.var 4) .nil))))
    .nil) .nil)
    .nil)
noncomputable def vR : Ss := (.cons (.forE 4 5 (.var 3) ZL)
    .nil)
noncomputable def jF : Ss := (.cons (.asg 1 (.lst .nil))
    (.cons (.forE 2 3 (.prim .splitN (.cons (.var 0) .nil)) vR)
    (.cons (.ret (.prim .toTup (.cons (.var 1) .nil)))
    .nil)))
noncomputable def ZM : Ss := (.cons (.ifs (.not (.prim (.inst .str) (.cons (.var 0) .nil))) (.cons .stop
    .nil) .nil)
    (.cons (.asg 1 (.call 98 (.cons (.var 0) .nil)))
    (.cons (.ifs (.or (.not (.call 5 (.cons (.var 1) .nil))) (.prim .neS (.cons (.call 87 (.cons (.var 1) .nil)) (.cons (.var 0) .nil)))) (.cons .stop
    .nil) .nil)
    (.cons (.retV 1)
    .nil))))
noncomputable def vS : Ss := (.cons (.ifs (.or (.prim .ne (.cons (.prim .lenS (.cons (.prim .idx (.cons (.var 1) (.cons (.var 3) .nil))) .nil)) (.cons (.prim .lenS (.cons (.prim .idx (.cons (.var 1) (.cons (.int 0) .nil))) .nil)) .nil))) (.comp false (.cons (.prim .idx (.cons (.var 1) (.cons (.var 3) .nil))) (.cons .non (.cons .non .nil))) (.prim .ninS (.cons (.var 0) (.cons (.str ".#") .nil))) (.var 0))) (.cons (.ret .non)
    .nil) .nil)
    (.cons (.asg 2 (.prim .add (.cons (.var 2) (.cons (.comp true (.cons (.prim .lenS (.cons (.prim .idx (.cons (.var 1) (.cons (.var 3) .nil))) .nil)) .nil) (.prim .eqS (.cons (.prim .idxS (.cons (.prim .idx (.cons (.var 2) (.cons (.var 4) .nil))) (.cons (.var 0) .nil))) (.cons (.str "#") .nil))) (.tup (.cons (.var 4) (.cons (.var 0) .nil)))) .nil))))
    .nil))
noncomputable def vw : Ss := (.cons (.asg 1 (.prim .splitN (.cons (.var 0) .nil)))
    (.cons (.ifs (.or (.prim .neS (.cons (.prim .idx (.cons (.var 1) (.cons (.prim .neg (.cons (.int 1) .nil)) .nil))) (.cons (.str "") .nil))) (.or (.prim .lt (.cons (.prim .len (.cons (.var 1) .nil)) (.cons (.int 2) .nil))) (.or (.prim .gt (.cons (.prim .len (.cons (.var 1) .nil)) (.cons (.int 9) .nil))) (.prim .gt (.cons (.prim .lenS (.cons (.prim .idx (.cons (.var 1) (.cons (.int 0) .nil))) .nil)) (.cons (.int 8) .nil)))))) (.cons (.ret .non)
    .nil) .nil)
    (.cons (.asg 2 (.lst .nil))
    (.cons (.for_ 3 true (.cons (.prim .sub (.cons (.prim .len (.cons (.var 1) .nil)) (.cons (.int 1) .nil))) .nil) vS)
    (.cons (.ifs (.or (.not (.chain .le .le (.int 1) (.prim .len (.cons (.var 2) .nil)) (.int 24))) (.or (.prim .ninS (.cons (.str "#") (.cons (.prim .idx (.cons (.var 1) (.cons (.prim .neg (.cons (.int 2) .nil)) .nil))) .nil))) (.prim .ne (.cons (.prim .add (.cons (.prim .maxL (.cons (.comp false (.cons (.var 2) .nil) (.bl true) (.prim .idx (.cons (.var 0) (.cons (.int 1) .nil)))) .nil)) (.cons (.int 1) .nil))) (.cons (.prim .lenS (.cons (.prim .idx (.cons (.var 1) (.cons (.int 0) .nil))) .nil)) .nil))))) (.cons (.ret .non)
    .nil) .nil)
    (.cons (.ret (.prim .toTup (.cons (.var 2) .nil)))
    .nil))))))
noncomputable def ZN : Ss := (.cons (.asg 2 (.prim .mod (.cons (.call 13 (.cons (.var 0) (.cons (.int 1) .nil))) (.cons (.prim .lenS (.cons (.var 1) .nil)) .nil))))
    (.cons (.asg 3 (.prim .splitN (.cons (.var 1) .nil)))
    (.cons (.asg 4 (.prim .mod (.cons (.call 13 (.cons (.var 0) (.cons (.int 1) .nil))) (.cons (.prim .sub (.cons (.prim .len (.cons (.var 3) .nil)) (.cons (.int 1) .nil))) .nil))))
    (.cons (.asg 5 (.prim .mod (.cons (.call 13 (.cons (.var 0) (.cons (.int 0) .nil))) (.cons (.int 6) .nil))))
    (.cons (.ifs (.prim .eq (.cons (.var 5) (.cons (.int 0) .nil))) (.cons (.ret (.prim .addS (.cons (.prim .cutTS (.cons (.var 1) (.cons (.var 2) .nil))) (.cons (.prim .cutFS (.cons (.var 1) (.cons (.prim .add (.cons (.var 2) (.cons (.int 1) .nil))) .nil))) .nil))))
    .nil) .nil)
    (.cons (.ifs (.prim .eq (.cons (.var 5) (.cons (.int 1) .nil))) (.cons (.ret (.prim .addS (.cons (.prim .cutTS (.cons (.var 1) (.cons (.prim .add (.cons (.var 2) (.cons (.int 1) .nil))) .nil))) (.cons (.prim .cutFS (.cons (.var 1) (.cons (.var 2) .nil))) .nil))))
    .nil) .nil)
    (.cons (.ifs (.prim .eq (.cons (.var 5) (.cons (.int 2) .nil))) (.cons (.ret (.prim .addS (.cons (.prim .addS (.cons (.prim .cutTS (.cons (.var 1) (.cons (.var 2) .nil))) (.cons (.prim .idxS (.cons (.str ".# \n*1") (.cons (.prim .mod (.cons (.call 13 (.cons (.var 0) (.cons (.int 2) .nil))) (.cons (.int 6) .nil))) .nil))) .nil))) (.cons (.prim .cutFS (.cons (.var 1) (.cons (.prim .add (.cons (.var 2) (.cons (.int 1) .nil))) .nil))) .nil))))
    .nil) .nil)
    (.cons (.ifs (.prim .eq (.cons (.var 5) (.cons (.int 3) .nil))) (.cons (.ret (.prim .joinN (.cons (.prim .add (.cons (.prim .cutTo (.cons (.var 3) (.cons (.var 4) .nil))) (.cons (.prim .cutFL (.cons (.var 3) (.cons (.prim .add (.cons (.var 4) (.cons (.int 1) .nil))) .nil))) .nil))) .nil)))
    .nil) .nil)
    (.cons (.ifs (.prim .eq (.cons (.var 5) (.cons (.int 4) .nil))) (.cons (.ret (.prim .joinN (.cons (.prim .add (.cons (.prim .cutTo (.cons (.var 3) (.cons (.prim .add (.cons (.var 4) (.cons (.int 1) .nil))) .nil))) (.cons (.prim .cutFL (.cons (.var 3) (.cons (.var 4) .nil))) .nil))) .nil)))
    .nil) .nil)
    (.cons (.asg 6 (.lst (.cons (.str "") (.cons (.str "\n") (.cons (.str ".\n") (.cons (.str "#") (.cons (.str "#.\n") (.cons (.str "#\n.\n") (.cons (.prim .cutTS (.cons (.var 1) (.cons (.prim .neg (.cons (.int 1) .nil)) .nil))) (.cons (.prim .addS (.cons (.var 1) (.cons (.str "\n") .nil))) (.cons .non (.cons (.int 7) (.cons (.lst (.cons (.var 1) .nil)) (.cons (.prim .mulS (.cons (.str "#####\n") (.cons (.int 5) .nil))) .nil))))))))))))))
    (.cons (.ret (.prim .idx (.cons (.var 6) (.cons (.prim .mod (.cons (.call 13 (.cons (.var 0) (.cons (.int 1) .nil))) (.cons (.int 12) .nil))) .nil))))
    .nil)))))))))))
noncomputable def Xv : Ss := (.cons (.asg 4 (.prim .add (.cons (.prim .maxL (.cons (.comp false (.cons (.var 1) .nil) (.bl true) (.prim .idx (.cons (.var 0) (.cons (.int 1) .nil)))) .nil)) (.cons (.int 1) .nil))))
    (.cons (.asg 2 (.prim .addS (.cons (.prim .addS (.cons (.var 2) (.cons (.prim .join0 (.cons (.comp true (.cons (.var 4) .nil) (.bl true) (.prim .idxS (.cons (.str ".#") (.cons (.prim .intOf (.cons (.prim .inn (.cons (.tup (.cons (.var 4) (.cons (.var 0) .nil))) (.cons (.var 2) .nil))) .nil)) .nil)))) .nil)) .nil))) (.cons (.str "\n") .nil))))
    .nil))
noncomputable def ZO : Ss := (.cons (.asg 1 (.call 15 (.cons (.var 0) (.cons (.int 3) (.cons (.int 24) .nil)))))
    (.cons (.asg 2 (.str ""))
    (.cons (.for_ 3 true (.cons (.prim .add (.cons (.prim .maxL (.cons (.comp false (.cons (.var 1) .nil) (.bl true) (.prim .idx (.cons (.var 0) (.cons (.int 0) .nil)))) .nil)) (.cons (.int 1) .nil))) .nil) Xv)
    (.cons (.asg 5 (.call 107 (.cons (.var 0) (.cons (.var 2) .nil))))
    (.cons (.asg 6 .non)
    (.cons (.ifs (.prim (.inst .str) (.cons (.var 5) .nil)) (.cons (.asg 6 (.call 106 (.cons (.var 5) .nil)))
    .nil) .nil)
    (.cons (.ifs (.prim .isN (.cons (.var 6) .nil)) (.cons (.ret (.and (.call 143 (.cons (.var 5) .nil)) (.call 142 (.cons (.var 5) .nil))))
    .nil) .nil)
    (.cons (.ret (.and (.prim .lt (.cons (.prim .mod (.cons (.call 13 (.cons (.var 0) (.cons (.int 0) .nil))) (.cons (.int 6) .nil))) (.cons (.int 5) .nil))) (.prim .eq (.cons (.call 99 (.cons (.var 5) .nil)) (.cons (.var 6) .nil)))))
    .nil))))))))
noncomputable def vT : Ts := (.cons (.ifs (.not (.prim (.inst .str) (.cons (.var 0) .nil))) (.cons (.raise 6)
    .nil) .nil)
    (.cons (.pl (.asg 1 (.call 98 (.cons (.var 0) .nil))))
    (.cons (.ifs (.or (.not (.call 5 (.cons (.var 1) .nil))) (.prim .neS (.cons (.call 87 (.cons (.var 1) .nil)) (.cons (.var 0) .nil)))) (.cons (.raise 6)
    .nil) .nil)
    (.cons (.pl (.retV 1))
    .nil))))
noncomputable def jG : Ts := (.cons (.tryX (.cons (.callX 141 (.cons (.var 0) .nil))
    .nil) 1 [1, 6] .tru)
    (.cons (.pl (.ret (.bl false)))
    .nil))
noncomputable def jH : Ts := (.cons (.tryX (.cons (.callX 141 (.cons (.var 0) .nil))
    .nil) 0 [6] .tru)
    (.cons (.pl (.ret (.bl false)))
    .nil))
noncomputable def U : Nat → Option Fn
  | 0 => some ⟨3, 3, ZB, [], none⟩
  | 1 => some ⟨1, 1, ZC, [], none⟩
  | 2 => some ⟨1, 1, jE, [], none⟩
  | 4 => some ⟨1, 1, ZD, [], none⟩
  | 5 => some ⟨1, 1, vQ, [], none⟩
  | 6 => some ⟨1, 1, ZE, [], none⟩
  | 13 => some ⟨2, 2, ZF, [], none⟩
  | 14 => some ⟨3, 3, ZG, [], none⟩
  | 15 => some ⟨3, 13, ZI, [], none⟩
  | 86 => some ⟨3, 3, ZJ, [], none⟩
  | 87 => some ⟨1, 2, ZK, [], none⟩
  | 98 => some ⟨1, 6, jF, [], none⟩
  | 99 => some ⟨1, 2, ZM, [], none⟩
  | 106 => some ⟨1, 4, vw, [], none⟩
  | 107 => some ⟨2, 7, ZN, [], none⟩
  | 108 => some ⟨1, 7, ZO, [], none⟩
  | 141 => some ⟨1, 2, .nil, [], some vT⟩
  | 142 => some ⟨1, 2, .nil, [], some jG⟩
  | 143 => some ⟨1, 1, .nil, [], some jH⟩
  | _ => none
theorem U0 : U 0 = some ⟨3, 3, ZB, [], none⟩ := rfl
theorem U1 : U 1 = some ⟨1, 1, ZC, [], none⟩ := rfl
theorem U2 : U 2 = some ⟨1, 1, jE, [], none⟩ := rfl
theorem U4 : U 4 = some ⟨1, 1, ZD, [], none⟩ := rfl
theorem U5 : U 5 = some ⟨1, 1, vQ, [], none⟩ := rfl
theorem U6 : U 6 = some ⟨1, 1, ZE, [], none⟩ := rfl
theorem zgK : U 13 = some ⟨2, 2, ZF, [], none⟩ := rfl
theorem zgL : U 14 = some ⟨3, 3, ZG, [], none⟩ := rfl
theorem zgM : U 15 = some ⟨3, 13, ZI, [], none⟩ := rfl
theorem zgN : U 86 = some ⟨3, 3, ZJ, [], none⟩ := rfl
theorem zgO : U 87 = some ⟨1, 2, ZK, [], none⟩ := rfl
theorem gU : U 98 = some ⟨1, 6, jF, [], none⟩ := rfl
theorem zgP : U 99 = some ⟨1, 2, ZM, [], none⟩ := rfl
theorem zgQ : U 106 = some ⟨1, 4, vw, [], none⟩ := rfl
theorem zgR : U 107 = some ⟨2, 7, ZN, [], none⟩ := rfl
theorem zgS : U 108 = some ⟨1, 7, ZO, [], none⟩ := rfl
theorem gW : U 141 = some ⟨1, 2, .nil, [], some vT⟩ := rfl
theorem zgT : U 142 = some ⟨1, 2, .nil, [], some jG⟩ := rfl
theorem zgU : U 143 = some ⟨1, 1, .nil, [], some jH⟩ := rfl
end LK
namespace LK
open L2.LW
noncomputable def zp : Nat := 100000
noncomputable abbrev call (n i : Nat) (ds : List D) : Option SV := zQ U zp n i ds
theorem yK {n i : Nat} {F : Fn} {ds : List D} (h : U i = some F) (hl : ds.length = F.np) (hio : F.io = [] := by rfl) (hx : F.xb = none := by rfl) :
    zQ U zp (n + 1) i ds = vb (zv (zn U zp n) zp F.body (ds.map (fun d => some (.val d)) ++ List.replicate (F.nl - F.np) none)) := zgA h hl hio hx
noncomputable abbrev za := Int × Int
noncomputable def cD (c : za) : D := .tup [.int c.1, .int c.2]
noncomputable def fD (f : List za) : D := .tup (f.map cD)
noncomputable def lD (f : List za) : D := .lst (f.map cD)
@[simp] theorem zn5 {c : za} : plain (cD c) = true := by simp [cD]
@[simp] theorem gX : ∀ {l : List za}, yw (l.map cD) = true
  | [] => by simp
  | c :: r => by simp [gX (l := r)]
@[simp] theorem zn6 {f : List za} : plain (fD f) = true := by simp [fD]
@[simp] theorem gY {c : za} {n : Nat} : zE (n + 1) (cD c) = true := by simp [cD, zE]
@[simp] theorem zgV {n : Nat} {l : List za} : (l.map cD).all (zE (n + 1)) = true := by
  rw [List.all_map, List.all_eq_true]; intro x _; exact gY
@[simp] theorem zgW {a b : za} : zT (cD a) (cD b) = decide (a = b) := by
  rw [Bool.eq_iff_iff]
  obtain ⟨a1, a2⟩ := a; obtain ⟨b1, b2⟩ := b
  simp [cD, zT, yG]
@[simp] theorem zgX : ∀ {a b : List za}, yG (a.map cD) (b.map cD) = decide (a = b)
  | [], [] => by simp [yG]
  | [], _ :: _ => by simp [yG]
  | _ :: _, [] => by simp [yG]
  | x :: xs, y :: ys => by
    rw [Bool.eq_iff_iff]
    simp [yG, zgX (a := xs) (b := ys)]
@[simp] theorem zgY {c : za} {l : List za} : ((l.map cD).any fun y => zT y (cD c)) = decide (c ∈ l) := by
  rw [Bool.eq_iff_iff]
  simp [List.any_map, List.any_eq_true]
theorem Xw (n : Nat) (i a b : Int) : zQ U zp (n + 1) 0 [.int i, .int a, .int b] = some (.val (.bl (decide (a ≤ i) && decide (i ≤ b)))) := by
  rw [yK U0 rfl]
  simp [ZB]
  by_cases h : a ≤ i <;> simp [h]
theorem gZ (n : Nat) (c : za) : zQ U zp (n + 1) 1 [cD c] = some (.val (.bl true)) := by
  rw [yK U1 rfl]
  simp [ZC, cD]
noncomputable def yu (c : za) : Prop := 0 ≤ c.1 ∧ c.1 ≤ 7 ∧ 0 ≤ c.2 ∧ c.2 ≤ 7
theorem zgZ (n : Nat) {c : za} (h : yu c) : zQ U zp (n + 2) 2 [cD c] = some (.val (.bl true)) := by
  rw [yK U2 rfl]
  obtain ⟨h1, h2, h3, h4⟩ := h
  have h0 := gZ n c
  simp [jE, h0, Xw]
  simp [cD, Xw, h1, h2, h3, h4]
noncomputable def yo (a b : za) : Prop := a.1 < b.1 ∨ (a.1 = b.1 ∧ a.2 < b.2)
noncomputable instance (a b : za) : Decidable (yo a b) := by unfold yo; exact inferInstance
@[simp] theorem zn7 {a b : za} : zb .lt [cD a, cD b] = some (.val (.bl (decide (yo a b)))) := by
  simp only [cD, zb, Zd, ints?, Option.map_some, Option.bind_some, ye, lexLt]
  congr 3
  rw [Bool.eq_iff_iff]
  simp only [yo]
  by_cases h : a.1 = b.1
  · simp [h]
    by_cases h2 : a.2 = b.2
    · simp [h2]
    · simp [h2]
  · simp [h]
theorem zg0 {a b c : za} (h : yo a b) (h' : yo b c) : yo a c := by
  unfold yo at *; omega
theorem zaa {a : za} : ¬ yo a a := by unfold yo; omega
theorem zg1 {a b : za} (h : yo a b) (h' : yo b a) : False := zaa (zg0 h h')
structure OkF (f : List za) : Prop where
  ne : f ≠ []
  len : f.length ≤ 24
  cells : ∀ c ∈ f, yu c
  rise : f.Pairwise yo
theorem xn : (100000 : Nat) ≤ line := by decide
theorem zab {α : Type} {f : α → Bool} : ∀ {l : List α}, bools? (l.map fun x => D.bl (f x)) = some (l.map f)
  | [] => rfl
  | x :: r => by simp [bools?, zab (l := r)]
theorem JS {α : Type} {f : α → Bool} {l : List α} : zb .all [.lst (l.map fun x => D.bl (f x))] = some (.val (.bl (l.all f))) := by
  simp [zb, YL, zab, List.all_map, Function.comp_def]
theorem ZP {i : Int} (h : 0 ≤ i) (h' : i ≤ 1000000) : xt i := by unfold xt; omega
theorem zg2 {a b : Int} (h : xt a ∧ xt b) : zU true [.val (.int a), .val (.int b)] = some ((List.range (b - a).toNat).map fun (k : Nat) => D.int (a + (k : Int))) := by simp [zU, h]
theorem vx {a : Int} (h : xt a) : zU true [.val (.int a)] = some ((List.range a.toNat).map fun (k : Nat) => D.int (0 + (k : Int))) := by simp [zU, h]
@[simp] theorem zn8 {l : List D} : zU false [.val (.tup l)] = some l := id rfl
@[simp] theorem zn9 {l : List D} : zU false [.val (.lst l)] = some l := id rfl
@[simp] theorem zoa {o : Bool} {l : List D} : zU false [.obj o (.lst l)] = some l := id rfl
theorem zac {f : List za} {k : Nat} (h : k < f.length) : zb .idx [fD f, .int (k : Int)] = some (.val (cD f[k])) := by
  rw [fD, gN, atI_nat (by simpa using h)]; simp
theorem zad (n : Nat) {f : List za} (hl : f.length ≤ 1000) (h : f.Pairwise yo) : zQ U zp (n + 1) 4 [fD f] = some (.val (.bl true)) := by
  rw [yK U4 rfl]
  have hl' := xn
  have e3 : ((f.length : Int) - 1).toNat = f.length - 1 := by omega
  simp only [ZD]
  simp
  rw [wG (rs := [.val (.int 1), .val (.int f.length)]) (xs := List.range (f.length - 1)) (f := fun (k : Nat) => D.int (1 + (k : Int))) (fun _ => .bl true)]
  · simp [JS]
  · simp [fD]
  · rw [zg2 ⟨ZP (by omega) (by omega), ZP (by omega) (by omega)⟩, e3]
  · simp; omega
  · intro k hk
    rw [List.mem_range] at hk
    have e1 : (1 + (k : Int) - 1) = (k : Int) := by omega
    have e2 : (1 + (k : Int)) = ((k + 1 : Nat) : Int) := by omega
    have hk1 : k < f.length := by omega
    have hk2 : k + 1 < f.length := by omega
    have := List.pairwise_iff_getElem.mp h k (k + 1) hk1 hk2 (by omega)
    simp [e1]
    rw [zac hk1, e2, zac hk2]
    simp [this]
@[simp] theorem zob {f : List za} : wp .tuple (fD f) = true := id rfl
@[simp] theorem zoc {c : za} : wp .tuple (cD c) = true := id rfl
theorem Xx {f : List za} : zb .len [fD f] = some (.val (.int f.length)) := by simp [fD]
theorem zae (n : Nat) {f : List za} (h : OkF f) : zQ U zp (n + 3) 5 [fD f] = some (.val (.bl true)) := by
  rw [yK U5 rfl]
  have hl' := xn
  have h1 := h.len
  have h2 : 1 ≤ f.length := by have := h.ne; cases f <;> simp_all
  have hr := zad (n + 1) (by omega) h.rise
  simp -implicitDefEqProofs only [vQ]
  simp -implicitDefEqProofs [Xx, show (1 : Int) ≤ f.length by omega, show (f.length : Int) ≤ 24 by omega, hr]
  rw [wG (rs := [.val (fD f)]) (xs := f) (f := cD) (fun _ => .bl true)]
  · simp -implicitDefEqProofs [JS, fD]
  · simp
  · rfl
  · omega
  · intro c hc
    simp -implicitDefEqProofs [zgZ n (h.cells c hc)]
theorem zg3 (n : Nat) {f : List za} (h : OkF f) : zQ U zp (n + 4) 6 [fD f] = some (.val (fD f)) := by
  rw [yK U6 rfl]
  simp [ZE, zae n h]
structure OkL (l : za) : Prop where
  a : 0 ≤ l.1
  b : l.1 ≤ l.2
  c : 1 ≤ l.2
  d : l.2 ≤ 4
theorem zaf {c : za} {f : List za} : zb .inn [cD c, fD f] = some (.val (.bl (decide (c ∈ f)))) := by
  simp only [fD, zb, jl, gY, zgV, Bool.and_self, if_true, zgY, ye]
noncomputable def Xy (i : Int) : Int := if i < 0 then -i else i
noncomputable def Xz (l a b : za) : Bool := decide ((min (Xy (a.1 - b.1)) (Xy (a.2 - b.2)), max (Xy (a.1 - b.1)) (Xy (a.2 - b.2))) = l)
@[simp] theorem zod {c : za} : zb .idx [cD c, .int 0] = some (.val (.int c.1)) := id rfl
@[simp] theorem zoe {c : za} : zb .idx [cD c, .int 1] = some (.val (.int c.2)) := id rfl
end LK
namespace LK
open L2.LW
noncomputable def sm (a : Int) : Prop := -(2 ^ 64) < a ∧ a < 2 ^ 64
theorem JT {a : Int} (h : -1000000 ≤ a) (h' : a ≤ 1000000) : sm a := by unfold sm; omega
theorem JU {a b : Int} (h : sm b) : zb .mul [.int a, .int b] = some (.val (.int (a * b))) := zgB h
noncomputable def sD (ns : List Int) : D := .lst (ns.map D.int)
noncomputable def yi (ns : List Int) (k : Int) : Int := ns.getD k.toNat 0
theorem vy (n : Nat) (ns : List Int) {k : Int} (h : 0 ≤ k) : zQ U zp (n + 1) 13 [sD ns, .int k] = some (.val (.int (yi ns k))) := by
  rw [yK zgK rfl]
  obtain ⟨j, rfl⟩ := Int.eq_ofNat_of_zero_le h
  simp only [ZF]
  by_cases hj : j < ns.length
  · have hj' : (j : Int) < (ns.length : Int) := by omega
    simp [sD, hj']
    rw [JM, atI_nat (by simpa using hj)]
    simp [yi, hj]
  · have hj' : ¬ (j : Int) < (ns.length : Int) := by omega
    simp [sD, hj']
    simp [yi, List.getElem?_eq_none (by omega : ns.length ≤ j)]
theorem vU (n : Nat) (x : Int) {p m : Int} (h : 0 < p) (h' : 0 < m) : zQ U zp (n + 1) 14 [.int x, .int p, .int m] = some (.val (.int (x * 48271 % p % m))) := by
  rw [yK zgL rfl]
  simp [ZG, JU (JT (a := 48271) (by decide) (by decide)), vc h, vc h']
structure Built (down right wide : Int) (r k : Int) (fs : List za) : Prop where
  rise : fs.Pairwise yo
  at_ : ∀ x ∈ fs, down ≤ x.1 ∧ right ≤ x.2 ∧ x.2 < right + wide ∧ (x.1 < down + r ∨ (x.1 = down + r ∧ x.2 < right + k))
theorem Built.next {down right wide r k : Int} {fs : List za} (b : Built down right wide r k fs) (hk : 0 ≤ k) (hw : k < wide) (hr : 0 ≤ r) : Built down right wide r (k + 1) (fs ++ [(down + r, right + k)]) := by
  refine ⟨?_, fun x hx => ?_⟩
  · rw [List.pairwise_append]
    refine ⟨b.rise, by simp, fun x hx y hy => ?_⟩
    simp only [List.mem_singleton] at hy
    subst hy
    have := b.at_ x hx
    unfold yo; simp only; omega
  · rw [List.mem_append, List.mem_singleton] at hx
    rcases hx with hx | rfl
    · have := b.at_ x hx; omega
    · show down ≤ down + r ∧ right ≤ right + k ∧ right + k < right + wide ∧ (down + r < down + r ∨ (down + r = down + r ∧ right + k < right + (k + 1)))
      omega
theorem Built.skip {down right wide r k : Int} {fs : List za} (b : Built down right wide r k fs) : Built down right wide r (k + 1) fs :=
  ⟨b.rise, fun x hx => by have := b.at_ x hx; omega⟩
theorem Built.row {down right wide r : Int} {fs : List za} (b : Built down right wide r wide fs) : Built down right wide (r + 1) 0 fs :=
  ⟨b.rise, fun x hx => by have := b.at_ x hx; omega⟩
theorem zg4 (a b c : D) {w : Int} (h : w = 0 ∨ w = 1 ∨ w = 2) : ∃ d, (d = a ∨ d = b ∨ d = c) ∧ zb .idx [.lst [a, b, c], .int w] = some (.val d) := by
  rcases h with rfl | rfl | rfl
  · exact ⟨a, .inl rfl, rfl⟩
  · exact ⟨b, .inr (.inl rfl), rfl⟩
  · exact ⟨c, .inr (.inr rfl), rfl⟩
@[simp] theorem zof {fs : List za} {a b : Int} : fs.map cD ++ [.tup [.int a, .int b]] = (fs ++ [(a, b)]).map cD := by simp [cD]
theorem zg5 (n : Nat) (ns : List Int) {at_ most x rows wide down right way r k : Int} {j12 : Option SV} {fs : List za} (h0 : 0 ≤ at_) (hr : 0 ≤ r ∧ r ≤ 1000) (hk : 0 ≤ k ∧ k ≤ 1000) (hw : 0 ≤ way ∧ way < 4) (hl : fs.length ≤ 1000) (hj : zK (some j12) = true) :
    ∃ v fs', zK (some v) = true ∧ zv (zn U zp (n + 1)) zp Xu [some (.val (sD ns)), some (.val (.int at_)), some (.val (.int most)), some (.val (.int x)), some (.val (.int rows)), some (.val (.int wide)), some (.val (.int down)), some (.val (.int right)), some (.val (.int way)),
      some (.obj true (.lst (fs.map cD))), some (.val (.int r)), some (.val (.int k)), j12] =
      some (.nx, [some (.val (sD ns)), some (.val (.int at_)), some (.val (.int most)), some (.val (.int x)), some (.val (.int rows)), some (.val (.int wide)), some (.val (.int down)), some (.val (.int right)), some (.val (.int way)),
      some (.obj true (.lst (fs'.map cD))), some (.val (.int r)), some (.val (.int k)), v]) ∧ (fs' = fs ∨ fs' = fs ++ [(down + r, right + k)]) := by
  have m1 : sm r := JT (by omega) (by omega)
  have m2 : sm k := JT (by omega) (by omega)
  have h7 : (0 : Int) < 7 := by decide
  have hi : 0 ≤ at_ + 2 + (r + 2 * k) % 7 := by omega
  have hl' := xn
  have hl2 : fs.length < line := by omega
  simp only [Xu]
  simp [JU m1, JU m2, vc h7, vy n ns hi, hj]
  by_cases hz : way = 0
  · simp [hz, hl2]
    exact ⟨_, yS, fs ++ [(down + r, right + k)], by simp; rfl, .inr rfl⟩
  · obtain ⟨d, hd, e⟩ := zg4 (.int 2) (.int 4) (.int 7) (w := way - 1) (by omega)
    simp [hz, e]
    have key : ∃ m, d = .int m ∧ 0 < m := by
      rcases hd with rfl | rfl | rfl
      · exact ⟨_, rfl, by decide⟩
      · exact ⟨_, rfl, by decide⟩
      · exact ⟨_, rfl, by decide⟩
    obtain ⟨m, rfl, hm⟩ := key
    simp [vU n _ (show (0 : Int) < 9931 by decide) hm]
    split
    · simp [hl2]
      exact ⟨_, yS, fs ++ [(down + r, right + k)], by simp; rfl, .inr rfl⟩
    · exact ⟨_, yS, fs, rfl, .inl rfl⟩
noncomputable def xS (ns : List Int) (at_ most x rows wide down right way : Int) (fs : List za) (a b c : Option SV) : Env :=
  [some (.val (sD ns)), some (.val (.int at_)), some (.val (.int most)), some (.val (.int x)), some (.val (.int rows)), some (.val (.int wide)), some (.val (.int down)), some (.val (.int right)), some (.val (.int way)), some (.obj true (.lst (fs.map cD))), a, b, c]
theorem zg6 (n : Nat) (ns : List Int) {at_ most x rows wide down right way : Int} {r : Nat} {fs : List za} {b c : Option SV} (h0 : 0 ≤ at_) (hr : r ≤ 100) (hw : 0 ≤ wide ∧ wide ≤ 6) (hy : 0 ≤ way ∧ way < 4) (hl : fs.length ≤ 6 * r) (hb : Built down right wide r 0 fs) (fb : zK (some b) = true) (fc : zK (some c) = true) :
    ∃ a' b' c' fs', (zK (some a') = true ∧ zK (some b') = true ∧ zK (some c') = true) ∧ zv (zn U zp (n + 1)) zp ZH (xS ns at_ most x rows wide down right way fs (some (.val (.int r))) b c) = some (.nx, xS ns at_ most x rows wide down right way fs' a' b' c') ∧ fs'.length ≤ 6 * (r + 1) ∧ Built down right wide (r + 1 : Nat) 0 fs' := by
  obtain ⟨ρ', h1, b', c', fs', fr, rfl, h2, h3⟩ := JO (i := 11) (a := 0) (m := wide.toNat) (body := zv (zn U zp (n + 1)) zp Xu)
    (fun k ρ => ∃ b' c' fs', (zK (some b') = true ∧ zK (some c') = true) ∧ ρ = xS ns at_ most x rows wide down right way fs' (some (.val (.int r))) b' c' ∧ fs'.length ≤ 6 * r + k ∧ Built down right wide r (k : Int) fs') (ρ := xS ns at_ most x rows wide down right way fs (some (.val (.int r))) b c)
    ⟨b, c, fs, ⟨fb, fc⟩, rfl, by omega, hb⟩ fun k ρ hk zz3 => by
      obtain ⟨b', c', fs', fr, e, h2, h3⟩ := zz3
      subst e
      obtain ⟨v, fs2, fv, e1, e2⟩ := zg5 n ns (at_ := at_) (most := most) (x := x) (rows := rows) (wide := wide) (down := down) (right := right) (way := way) (r := r) (k := 0 + (k : Int)) (j12 := c') (fs := fs') h0 (by omega) (by omega) hy (by omega) fr.2
      refine ⟨_, _, e1, .inl rfl, _, v, fs2, ⟨yS, fv⟩, rfl, ?_⟩
      rw [Int.zero_add] at e2
      rcases e2 with rfl | rfl
      · exact ⟨by omega, h3.skip⟩
      · exact ⟨by simp; omega, h3.next (by omega) (by omega) (by omega)⟩
  refine ⟨some (.val (.int r)), b', c', fs', ⟨yS, fr.1, fr.2⟩, ?_, by omega, ?_⟩
  · simp only [ZH, zgu, va, gG, gF, gB, gI]
    rw [show (xS ns at_ most x rows wide down right way fs (some (.val (.int r))) b c)[11]? = some b from rfl, fb, show look (xS ns at_ most x rows wide down right way fs (some (.val (.int r))) b c) 5 = some (.val (.int wide)) from rfl]
    simp [vx (ZP hw.1 (by omega : wide ≤ 1000000))]
    rw [show (List.map (fun (k : Nat) => D.int (k : Int)) (List.range wide.toNat)) = (List.range wide.toNat).map fun (k : Nat) => D.int (0 + (k : Int)) by simp, h1]
    simp
  · have e : (wide.toNat : Int) = wide := by omega
    rw [e] at h3
    have := h3.row
    simpa using this
theorem zg7 (n : Nat) (ns : List Int) {at_ most x rows wide down right way : Int} {a b c : Option SV} (h0 : 0 ≤ at_) (hr : 0 ≤ rows ∧ rows ≤ 5) (hw : 0 ≤ wide ∧ wide ≤ 6) (hy : 0 ≤ way ∧ way < 4) (fa : zK (some a) = true) (fb : zK (some b) = true) (fc : zK (some c) = true) :
    ∃ a' b' c' fs', zH (zn U zp (n + 1)) zp (.for_ 10 true (.cons (.var 4) .nil) ZH) (xS ns at_ most x rows wide down right way [] a b c) = some (.nx, xS ns at_ most x rows wide down right way fs' a' b' c') ∧ Built down right wide rows 0 fs' ∧ fs'.length ≤ 30 := by
  obtain ⟨ρ', h1, a', b', c', fs', fr, rfl, h2, h3⟩ := JO (i := 10) (a := 0) (m := rows.toNat) (body := zv (zn U zp (n + 1)) zp ZH)
    (fun k ρ => ∃ a' b' c' fs', (zK (some a') = true ∧ zK (some b') = true ∧ zK (some c') = true) ∧ ρ = xS ns at_ most x rows wide down right way fs' a' b' c' ∧ fs'.length ≤ 6 * k ∧ Built down right wide (k : Int) 0 fs') (ρ := xS ns at_ most x rows wide down right way [] a b c)
    ⟨a, b, c, [], ⟨fa, fb, fc⟩, rfl, by simp, ⟨by simp, by simp⟩⟩ fun k ρ hk zz3 => by
      obtain ⟨a', b', c', fs', fr, e, h2, h3⟩ := zz3
      subst e
      obtain ⟨a2, b2, c2, fs2, fr2, e1, e2, e3⟩ := zg6 n ns (at_ := at_) (most := most) (x := x) (rows := rows) (wide := wide) (down := down) (right := right) (way := way) (r := k) (fs := fs') (b := b') (c := c') h0 (by omega) hw hy h2 h3 fr.2.1 fr.2.2
      refine ⟨_, _, ?_, .inl rfl, a2, b2, c2, fs2, fr2, rfl, e2, e3⟩
      rw [Int.zero_add]
      exact e1
  refine ⟨a', b', c', fs', ?_, ?_, by omega⟩
  · simp only [va, gG, gF, gB, gI]
    rw [show (xS ns at_ most x rows wide down right way [] a b c)[10]? = some a from rfl, fa, show look (xS ns at_ most x rows wide down right way [] a b c) 4 = some (.val (.int rows)) from rfl]
    simp [vx (ZP hr.1 (by omega : rows ≤ 1000000))]
    rw [show (List.map (fun (k : Nat) => D.int (k : Int)) (List.range rows.toNat)) = (List.range rows.toNat).map fun (k : Nat) => D.int (0 + (k : Int)) by simp, h1]
  · have e : (rows.toNat : Int) = rows := by omega
    rw [e] at h3
    exact h3
theorem zag {fs : List za} {k : Int} (h : 0 ≤ k) : zb .cutTo [.lst (fs.map cD), .int k] = some (.obj true (.lst ((fs.take k.toNat).map cD))) := by
  simp [zb, jp, h]
noncomputable def zg8 (f : List za) : Prop := ∃ d : Int, ∀ c ∈ f, d ≤ c.1 ∧ c.1 < d + 5
theorem zg9 (n : Nat) (ns : List Int) {at_ most : Int} (h0 : 0 ≤ at_) (hm : 1 ≤ most) (hm2 : most ≤ 24) : ∃ f, OkF f ∧ (f.length : Int) ≤ most ∧ zg8 f ∧ zQ U zp (n + 2) 15 [sD ns, .int at_, .int most] = some (.val (fD f)) := by
  rw [yK zgM rfl]
  simp only [ZI]
  have p5 : (0 : Int) < 5 := by decide
  have p6 : (0 : Int) < 6 := by decide
  have p4 : (0 : Int) < 4 := by decide
  have q1 : (0 : Int) < 9973 := by decide
  have q2 : (0 : Int) < 9967 := by decide
  have q3 : (0 : Int) < 9949 := by decide
  have q4 : (0 : Int) < 9941 := by decide
  have q5 : (0 : Int) < 9907 := by decide
  have h1 : 0 ≤ at_ + 1 := by omega
  simp [vy n ns h0, vy n ns h1, vU n _ q1 p5, vU n _ q2 p6, vU n _ q5 p4]
  generalize hx : yi ns at_ = x
  generalize hrows : 1 + x * 48271 % 9973 % 5 = rows
  generalize hwide : 1 + x * 48271 % 9967 % 6 = wide
  have hr9 : 0 < 9 - rows := by omega
  have hw9 : 0 < 9 - wide := by omega
  simp [vU n _ q3 hr9, vU n _ q4 hw9, vy n ns h1, vU n _ q5 p4]
  generalize hdown : yi ns (at_ + 1) * 48271 % 9949 % (9 - rows) = down
  generalize hright : yi ns (at_ + 1) * 48271 % 9941 % (9 - wide) = right
  generalize hway : (x + 3) * 48271 % 9907 % 4 = way
  have bw : 0 ≤ way ∧ way < 4 := by omega
  have bd : 0 ≤ down ∧ down < 9 - rows := by rw [← hdown]; exact ⟨Int.emod_nonneg _ (by omega), Int.emod_lt_of_pos _ hr9⟩
  have br : 0 ≤ right ∧ right < 9 - wide := by rw [← hright]; exact ⟨Int.emod_nonneg _ (by omega), Int.emod_lt_of_pos _ hw9⟩
  obtain ⟨a', b', c', fs, e1, hb, hl⟩ := zg7 n ns (at_ := at_) (most := most) (x := x) (rows := rows) (wide := wide) (down := down) (right := right) (way := way) (a := none) (b := none) (c := none) h0 (by omega) (by omega) bw rfl rfl rfl
  have e1' := e1
  simp only [xS, List.map_nil] at e1'
  have hok : ∀ c ∈ fs, yu c := fun c hc => by
    have := hb.at_ c hc
    unfold yu; omega
  by_cases hf : fs = []
  · subst hf
    refine ⟨[(down, right)], ⟨by simp, by simp, fun c hc => ?_, by simp⟩, by simp; omega, ⟨down, fun c hc => ?_⟩, ?_⟩
    · simp at hc; subst hc; unfold yu; simp only; omega
    · simp at hc; subst hc; simp only; omega
    · simp [e1']
      rw [show D.tup [.int down, .int right] = cD (down, right) from rfl, show ([cD (down, right)] : List D) = [(down, right)].map cD from rfl, zag (by omega)]
      rw [List.take_of_length_le (by simp; omega)]
      simp [fD]
  · refine ⟨fs.take most.toNat, ⟨fun h => ?_, ?_, fun c hc => hok c (List.mem_of_mem_take hc), hb.rise.sublist (List.take_sublist _ _)⟩, ?_, ⟨down, fun c hc => ?_⟩, ?_⟩
    · rw [List.take_eq_nil_iff] at h
      rcases h with h | h
      · omega
      · exact hf h
    · rw [List.length_take]; omega
    · rw [List.length_take]; omega
    · have := hb.at_ c (List.mem_of_mem_take hc)
      omega
    · have hne : fs.map cD ≠ [] := by simpa using hf
      simp [e1', hne, hf]
      rw [zag (by omega)]
      simp [fD]
theorem zha (n : Nat) (ns : List Int) {at_ most : Int} (h0 : 0 ≤ at_) (hm : 1 ≤ most) (hm2 : most ≤ 24) : ∃ f, OkF f ∧ (f.length : Int) ≤ most ∧ zQ U zp (n + 2) 15 [sD ns, .int at_, .int most] = some (.val (fD f)) := by
  obtain ⟨f, h1, h2, _, h3⟩ := zg9 n ns h0 hm hm2
  exact ⟨f, h1, h2, h3⟩
end LK
namespace LK
open L2.LW
noncomputable def depth : Nat := 40
end LK
namespace LK
open L2.LW
noncomputable abbrev Ms := List (za × za)
noncomputable def dD (ms : Ms) : D := .dct true (ms.map fun p => cD p.1) (ms.map fun p => cD p.2)
noncomputable def get (ms : Ms) (c : za) : Option za := (ms.find? fun p => decide (p.1 = c)).map (·.2)
noncomputable def put (ms : Ms) (c v : za) : Ms := if (get ms c).isSome then ms.map (fun p => if p.1 = c then (p.1, v) else p) else ms ++ [(c, v)]
@[simp] theorem JV {c : za} : yP true (cD c) = true := by simp [cD, yP, ints?]
theorem zah (c : za) : ∀ l : List za, yA (l.map cD) (cD c) = l.findIdx? fun x => decide (x = c)
  | [] => rfl
  | x :: r => by
    have ih := zah c r
    unfold yA at ih ⊢
    rw [List.map_cons, List.findIdx?_cons, List.findIdx?_cons, zgW, ih]
theorem JW (c : za) : ∀ l : List za, (yA (l.map cD) (cD c)).isSome = decide (c ∈ l) := fun l => by
  rw [zah]
  cases e : l.findIdx? fun x => decide (x = c) with
  | none =>
    rw [List.findIdx?_eq_none_iff] at e
    have : c ∉ l := fun h => by have := e c h; simp at this
    simp [this]
  | some i =>
    obtain ⟨h1, h2, _⟩ := List.findIdx?_eq_some_iff_getElem.mp e
    have : c ∈ l := by
      have h2 : l[i] = c := by simpa using h2
      rw [← h2]; exact List.getElem_mem h1
    simp [this]
theorem zhb (p : za × za) (r : Ms) (c : za) : get (p :: r) c = if p.1 = c then some p.2 else get r c := by
  unfold get
  rw [List.find?_cons]
  by_cases h : p.1 = c <;> simp [h]
theorem XA (c : za) : ∀ ms : Ms, (get ms c).isSome = decide (c ∈ ms.map (·.1))
  | [] => rfl
  | p :: r => by
    rw [zhb, List.map_cons]
    by_cases h : p.1 = c
    · simp [h]
    · rw [if_neg h, XA c r]
      have : ¬ c = p.1 := fun z => h z.symm
      simp [this]
theorem zai (ms : Ms) : (ms.map fun p => cD p.1) = (ms.map (·.1)).map cD := by rw [List.map_map]; rfl
@[simp] theorem zog {c : za} {ms : Ms} : zb .inn [cD c, dD ms] = some (.val (.bl (get ms c).isSome)) := by
  simp only [dD, zb, jl, JV, if_true, ye, zai, JW, XA]
@[simp] theorem zoh {c : za} {ms : Ms} : zb .nin [cD c, dD ms] = some (.val (.bl (!(get ms c).isSome))) := by
  simp only [dD, zb, YG, JV, if_true, ye, zai, JW, XA]
@[simp] theorem zoi {ms : Ms} : yw (ms.map fun p => cD p.2) = true := by
  have : (ms.map fun p => cD p.2) = (ms.map (·.2)).map cD := by rw [List.map_map]; rfl
  rw [this]; exact gX
@[simp] theorem zoj {ms : Ms} : jq (dD ms) = true := by simp [dD]
@[simp] theorem zok {ms : Ms} : xM (dD ms) = true := by simp [dD]
noncomputable def zhc (ms : Ms) : Prop := (ms.map (·.1)).Nodup
theorem XB {α : Type} [DecidableEq α] : ∀ {l m : List α}, l.Nodup → (∀ x ∈ l, x ∈ m) → l.length ≤ m.length
  | [], _, _, _ => Nat.zero_le _
  | x :: r, m, hn, hs => by
    rw [List.nodup_cons] at hn
    have hx := hs x List.mem_cons_self
    have ih := XB (l := r) (m := m.erase x) hn.2 fun y hy => by
      rw [List.mem_erase_of_ne (fun e => hn.1 (by rw [← e]; exact hy))]
      exact hs y (List.mem_cons_of_mem _ hy)
    rw [List.length_erase_of_mem hx] at ih
    have : 0 < m.length := List.length_pos_of_mem hx
    simp; omega
noncomputable def zhd (l : za) : List Int := ((List.range l.2.toNat).map fun (k : Nat) => (1 + (k : Int))).filter fun d => decide (l.1 % d = 0) && decide (l.2 % d = 0)
noncomputable def ZQ (l : za) : Int := match zhd l with
  | [] => 1
  | n :: r => r.foldl max n
theorem zhe {l : za} (h : OkL l) : l ∈ [((0 : Int), (1 : Int)), (1, 1), (0, 2), (1, 2), (2, 2), (0, 3), (1, 3), (2, 3), (3, 3), (0, 4), (1, 4), (2, 4), (3, 4), (4, 4)] := by
  obtain ⟨h1, h2, h3, h4⟩ := h
  have all : ∀ i j : Fin 5, i.1 ≤ j.1 → 1 ≤ j.1 → (((i.1 : Nat) : Int), ((j.1 : Nat) : Int)) ∈ [((0 : Int), (1 : Int)), (1, 1), (0, 2), (1, 2), (2, 2), (0, 3), (1, 3), (2, 3), (3, 3), (0, 4), (1, 4), (2, 4), (3, 4), (4, 4)] := by decide +kernel
  have := all ⟨l.1.toNat, by omega⟩ ⟨l.2.toNat, by omega⟩ (by simp only; omega) (by simp only; omega)
  simp only at this
  rw [Int.toNat_of_nonneg h1, Int.toNat_of_nonneg (by omega)] at this
  exact this
theorem OkL.cases {P : za → Prop} {l : za} (h : OkL l) (p : ∀ x ∈ [((0 : Int), (1 : Int)), (1, 1), (0, 2), (1, 2), (2, 2), (0, 3), (1, 3), (2, 3), (3, 3), (0, 4), (1, 4), (2, 4), (3, 4), (4, 4)], P x) : P l := p l (zhe h)
noncomputable def zhf (l : za) : Bool := decide ((l.1 / ZQ l + l.2 / ZQ l) % 2 = 1)
noncomputable def ZR (l c : za) : Int := if zhf l then (c.1 / ZQ l + c.2 / ZQ l) % 2 else c.1 / ZQ l % 2
theorem zol {g m x y : Int} (hg : 1 ≤ g) (h : x - y = g * m ∨ x - y = -(g * m)) : (x / g = y / g + m ∨ x / g = y / g - m) ∧ x % g = y % g := by
  rcases h with h | h
  · rw [show x = y + g * m by omega, Int.add_mul_ediv_left _ _ (by omega), Int.add_mul_emod_self_left]
    exact ⟨.inl rfl, rfl⟩
  · rw [show x = y + g * (-m) by rw [Int.mul_neg]; omega, Int.add_mul_ediv_left _ _ (by omega), Int.add_mul_emod_self_left]
    exact ⟨.inr (by omega), rfl⟩
end LK
namespace LK
open L2.LW
noncomputable def zaj (k : Option (List D)) : Option (Option SV) → Option (List D)
  | some (some (.io d)) => k.map (d :: ·)
  | _ => none
@[simp] theorem zom {k : Option (List D)} {d : D} : zaj k (some (some (.io d))) = k.map (d :: ·) := id rfl
@[simp] theorem zon {ρ : Env} : xP ρ [] = some [] := by rw [xP]
@[simp] theorem zoo {ρ : Env} {i : Nat} {r : List Nat} : xP ρ (i :: r) = zaj (xP ρ r) ρ[i]? := by
  rw [xP]
  rcases ρ[i]? with _ | _ | (_ | _ | _) <;> rfl
@[simp] theorem zop {io : List Nat} {r : SV} {ρ : Env} : vI io (some (.rt r, ρ)) = (xP ρ io).map (Ans.ok r) := id rfl
@[simp] theorem zoq {io : List Nat} {ρ : Env} : vI io (some (.nx, ρ)) = (xP ρ io).map (Ans.ok (.val .non)) := id rfl
noncomputable def tD (tr : List za) : D := .dct true (tr.map cD) (tr.map fun _ => .bl true)
@[simp] theorem zor {tr : List za} : yw (tr.map fun _ => (.bl true : D)) = true := by
  induction tr with
  | nil => simp
  | cons x r ih => simpa using ih
@[simp] theorem zos {tr : List za} : jq (tD tr) = true := by simp [tD]
@[simp] theorem zot {tr : List za} : xM (tD tr) = true := by simp [tD]
@[simp] theorem zou {c : za} {tr : List za} : zb .nin [cD c, tD tr] = some (.val (.bl (!decide (c ∈ tr)))) := by
  simp only [tD, zb, YG, JV, if_true, ye, JW]
section
variable (f : List za) (l : za)
noncomputable def nb (c : za) : List za := f.filter (Xz l c)
structure Half (ms : Ms) : Prop where
  nd : zhc ms
  inF : ∀ x y, get ms x = some y → x ∈ f ∧ y ∈ f ∧ Xz l x y = true
noncomputable def zak (ms : Ms) (T : za → Prop) : Prop := ∀ y, T y → ∃ x, get ms y = some x ∧ ∀ o ∈ nb f l x, T o
structure Fail (ms : Ms) (c : za) (tr tr' : List za) : Prop where
  all : ∀ o ∈ nb f l c, o ∈ tr'
  cl : ∀ y ∈ tr', y ∉ tr → ∃ x, get ms y = some x ∧ ∀ o ∈ nb f l x, o ∈ tr'
structure Succ (ms ms' : Ms) (c : za) (tr : List za) : Prop where
  half : Half f l ms'
  left : ∀ x y, ZR l x = 0 → get ms' x = some y → get ms' y = some x
  right : ∀ x y, ZR l y = 1 → get ms c ≠ some y → get ms' y = some x → get ms' x = some y
  old : ∀ y ∈ tr, ZR l y = 1 → get ms' y = get ms y
  own : ∃ y, get ms' c = some y ∧ y ∉ tr
  keep : ∀ x, ZR l x = 0 → x ≠ c → (get ms x = none ∨ ∃ y ∈ tr, get ms x = some y) → get ms' x = get ms x
  dom : ∀ x, (get ms x).isSome = true → (get ms' x).isSome = true
  closed : ∀ T, zak f l ms T → ∀ y, ZR l y = 1 → T y → get ms' y = get ms y
  dead : ∀ T, zak f l ms T → ¬ ∀ o ∈ nb f l c, T o
end
section
variable {f : List za} {l : za}
theorem Half.len {ms : Ms} (h : Half f l ms) : ms.length ≤ f.length := by
  have := XB (l := ms.map fun (p : za × za) => p.1) (m := f) h.nd fun x hx => by
    have : (get ms x).isSome = true := by rw [XA]; simpa using hx
    obtain ⟨y, hy⟩ := Option.isSome_iff_exists.mp this
    exact (h.inF x y hy).1
  simpa using this
@[simp] theorem zov {c : za} : wq (.val (cD c)) = some (.e (cD c)) := by simp [cD]
@[simp] theorem zow {g : List za} : wq (.val (fD g)) = some (.e (fD g)) := by simp [fD]
structure TrOk (f tr : List za) : Prop where
  nd : tr.Nodup
  sub : ∀ x ∈ tr, x ∈ f
theorem TrOk.len {tr : List za} (h : TrOk f tr) : tr.length ≤ f.length := XB h.nd h.sub
theorem TrOk.snoc {tr : List za} {o : za} (h : TrOk f tr) (ho : o ∈ f) (ht : o ∉ tr) : TrOk f (tr ++ [o]) := by
  refine ⟨?_, fun x hx => ?_⟩
  · rw [List.nodup_append]
    refine ⟨h.nd, by simp, fun a ha b hb e => ?_⟩
    simp at hb; subst hb; subst e; exact ht ha
  · rw [List.mem_append, List.mem_singleton] at hx
    rcases hx with z | rfl
    · exact h.sub x z
    · exact ho
structure FM (f : List za) (l : za) (n : Nat) (ms : Ms) (c : za) (tr : List za) (b : Bool) (ms' : Ms) (tr' : List za) : Prop where
  eq : zn U zp n 37 [fD f, cD l, dD ms, cD c, tD tr] = some (.ok (.val (.bl b)) [dD ms', tD tr'])
  tr_ : ∀ y ∈ tr, y ∈ tr'
  ok : TrOk f tr'
  no : b = false → ms' = ms ∧ Fail f l ms c tr tr'
  yes : b = true → Succ f l ms ms' c tr
end
end LK
namespace LK
open L2.LW
section
variable {α : Type}
noncomputable def vz (ms : List (za × α)) (c : za) : Option α := (ms.find? fun p => decide (p.1 = c)).map (·.2)
theorem zhg (p : za × α) (r : List (za × α)) (c : za) : vz (p :: r) c = if p.1 = c then some p.2 else vz r c := by
  unfold vz
  rw [List.find?_cons]
  by_cases h : p.1 = c <;> simp [h]
theorem zal (c : za) : ∀ ms : List (za × α), (vz ms c).isSome = decide (c ∈ ms.map (·.1))
  | [] => rfl
  | p :: r => by
    rw [zhg, List.map_cons]
    by_cases h : p.1 = c
    · simp [h]
    · rw [if_neg h, zal c r]
      have : ¬ c = p.1 := fun z => h z.symm
      simp [this]
end
section
variable (f : List za) (l : za)
noncomputable def Bk (goal : za) : Nat → za → Prop
  | 0, c => c = goal
  | k + 1, c => Bk goal k c ∨ (c ∈ f ∧ ∃ p, Bk goal k p ∧ Xz l c p = true)
noncomputable def Lv (goal : za) (k : Nat) (c : za) : Prop := Bk f l goal k c ∧ ∀ i, i < k → ¬ Bk f l goal i c
noncomputable abbrev zam := List (za × Option za)
structure LOk (goal : za) (ms : zam) : Prop where
  nd : (ms.map (·.1)).Nodup
  sub : ∀ c, (vz ms c).isSome = true → c ∈ f
  root : ∀ c, vz ms c = some none → c = goal
  next : ∀ c p, vz ms c = some (some p) → Xz l c p = true ∧ ∃ j, Lv f l goal (j + 1) c ∧ Lv f l goal j p ∧ (vz ms p).isSome = true
end
section
variable {f : List za} {l : za} {goal : za}
theorem Bk.inF (hg : goal ∈ f) : ∀ {k : Nat} {c : za}, Bk f l goal k c → c ∈ f
  | 0, c, h => by rw [show c = goal from h]; exact hg
  | k + 1, c, h => by
    rcases h with h | h
    · exact Bk.inF hg h
    · exact h.1
theorem LOk.len {ms : zam} (h : LOk f l goal ms) : ms.length ≤ f.length := by
  have := XB (l := ms.map fun (p : za × Option za) => p.1) (m := f) h.nd fun x hx => h.sub x (by rw [zal]; simpa using hx)
  simpa using this
end
end LK
namespace LK
open L2.LW
theorem zan {α : Type} {R : α → α → Prop} (ir : ∀ a, ¬ R a a) (as : ∀ a b, R a b → R b a → False) : ∀ {l m : List α}, l.Pairwise R → m.Pairwise R → (∀ x, x ∈ l ↔ x ∈ m) → l = m
  | [], [], _, _, _ => rfl
  | [], y :: m, _, _, h => absurd ((h y).mpr List.mem_cons_self) (by simp)
  | x :: l, [], _, _, h => absurd ((h x).mp List.mem_cons_self) (by simp)
  | x :: l, y :: m, hl, hm, h => by
    rw [List.pairwise_cons] at hl hm
    have exy : x = y := by
      rcases List.mem_cons.mp ((h x).mp List.mem_cons_self) with e | e
      · exact e
      · rcases List.mem_cons.mp ((h y).mpr List.mem_cons_self) with e' | e'
        · exact e'.symm
        · exact (as _ _ (hm.1 x e) (hl.1 y e')).elim
    subst exy
    rw [zan ir as hl.2 hm.2 fun z => ?_]
    constructor
    · intro hz
      rcases List.mem_cons.mp ((h z).mp (List.mem_cons_of_mem _ hz)) with e | e
      · subst e; exact (ir _ (hl.1 z hz)).elim
      · exact e
    · intro hz
      rcases List.mem_cons.mp ((h z).mpr (List.mem_cons_of_mem _ hz)) with e | e
      · subst e; exact (ir _ (hm.1 z hz)).elim
      · exact e
noncomputable def cl (c : za) : List Int := [c.1, c.2]
noncomputable def zhh (f : List za) (l c : za) : List za := f.filter fun x => @decide (∃ k, Bk f l c k x) (Classical.propDecidable _)
noncomputable def JX (f : List za) (l : za) : List za → List (List za) → List (List za)
  | [], acc => acc
  | c :: r, acc => if c ∈ acc.flatten then JX f l r acc else JX f l r (acc ++ [zhh f l c])
noncomputable def zox (f : List za) (l : za) : List (List za) := JX f l f []
end LK
namespace LK
open L2.LW
noncomputable def tx (l : List Nat) : PySem.Str := ⟨l.toArray⟩
noncomputable def yd (f : List za) (r c : Nat) : Nat := if ((r : Int), (c : Int)) ∈ f then 35 else 46
noncomputable def zI (f : List za) (w r : Nat) : List Nat := (List.range w).map (yd f r)
noncomputable def zP (f : List za) (w m : Nat) : List Nat := (List.range m).flatMap fun r => zI f w r ++ [10]
theorem wH : (PySem.Str.ofString "#") = tx [35] := by decide +kernel
theorem zhi : (PySem.Str.ofString ".") = tx [46] := by decide +kernel
theorem JY : (PySem.Str.ofString "\n") = tx [10] := by decide +kernel
theorem wb : (PySem.Str.ofString "") = tx [] := by decide +kernel
theorem zhj (a b : List Nat) : tx a ++ tx b = tx (a ++ b) := by
  show (⟨a.toArray ++ b.toArray⟩ : PySem.Str) = ⟨(a ++ b).toArray⟩
  simp
theorem xo (a : List Nat) : (tx a).length = a.length := by
  show a.toArray.size = _
  simp
theorem XC {a b : List Nat} (h : tx a = tx b) : a = b := by
  have : (tx a).cps.toList = (tx b).cps.toList := by rw [h]
  simpa [tx] using this
theorem JZ : ∀ ys : List PySem.Str, strs? (ys.map D.str) = some ys
  | [] => rfl
  | y :: ys => by simp [strs?, JZ ys]
theorem vA {a b : List Nat} (h : a.length + b.length ≤ 1000) : zb .addS [.str (tx a), .str (tx b)] = some (.val (.str (tx (a ++ b)))) := by
  have : (tx a).length + (tx b).length ≤ 10000000 := by rw [xo, xo]; omega
  simp only [zb, YH, if_pos this, zhj]
theorem Qa {α : Type} {xs : List α} {g : α → List Nat} (h : ((xs.map g).map List.length).sum ≤ 1000) : zb .join0 [.lst (xs.map fun x => .str (tx (g x)))] = some (.val (.str (tx (xs.flatMap g)))) := by
  have e : (xs.map fun x => D.str (tx (g x))) = (xs.map fun x => tx (g x)).map D.str := by rw [List.map_map]; rfl
  have h2 : ((xs.map fun x => tx (g x)).map (·.length)).sum ≤ 10000000 := by
    rw [List.map_map]
    have : (fun y : PySem.Str => y.length) ∘ (fun x => tx (g x)) = fun x => (g x).length := by funext x; exact xo _
    rw [this]
    rw [List.map_map] at h
    exact Nat.le_trans h (by decide)
  simp only [zb, YJ, e, JZ, Option.bind_some, if_pos h2]
  congr 3
  unfold YI tx
  rw [List.flatMap_map]
theorem XD {α : Type} {xs : List α} {g : α → Nat} {k : Nat} (h : ∀ x ∈ xs, g x = k) : (xs.map g).sum = xs.length * k := by
  induction xs with
  | nil => simp
  | cons a r ih => rw [List.map_cons, List.sum_cons, h a List.mem_cons_self, ih fun x hx => h x (List.mem_cons_of_mem _ hx), List.length_cons, Nat.succ_mul, Nat.add_comm]
theorem Qb {α β : Type} (g : α → β) : ∀ l : List α, l.flatMap (fun c => [g c]) = l.map g
  | [] => rfl
  | a :: r => by rw [List.flatMap_cons, Qb g r]; rfl
noncomputable def mx (g : za → Int) (f : List za) : Int := match f.map g with
  | [] => 0
  | n :: r => r.foldl max n
theorem zao : ∀ (r : List Int) (n : Int), n ≤ r.foldl max n ∧ (∀ x ∈ r, x ≤ r.foldl max n) ∧ (r.foldl max n = n ∨ r.foldl max n ∈ r)
  | [], n => ⟨Int.le_refl _, by simp, .inl rfl⟩
  | a :: r, n => by
    obtain ⟨h1, h2, h3⟩ := zao r (max n a)
    rw [List.foldl_cons]
    refine ⟨by omega, fun x hx => ?_, ?_⟩
    · rcases List.mem_cons.mp hx with rfl | hx
      · omega
      · exact h2 x hx
    · rcases h3 with h3 | h3
      · rw [h3]
        by_cases h : n ≤ a
        · right; rw [Int.max_eq_right h]; exact List.mem_cons_self
        · left; omega
      · right; exact List.mem_cons_of_mem _ h3
theorem vd {g : za → Int} {f : List za} (h : f ≠ []) : (∀ c ∈ f, g c ≤ mx g f) ∧ (∃ c ∈ f, g c = mx g f) ∧ zb .maxL [.lst (f.map fun c => .int (g c))] = some (.val (.int (mx g f))) := by
  cases f with
  | nil => exact absurd rfl h
  | cons a r =>
    obtain ⟨h1, h2, h3⟩ := zao (r.map g) (g a)
    have e : mx g (a :: r) = (r.map g).foldl max (g a) := rfl
    rw [e]
    refine ⟨fun c hc => ?_, ?_, ?_⟩
    · rcases List.mem_cons.mp hc with rfl | hc
      · exact h1
      · exact h2 _ (List.mem_map.mpr ⟨c, hc, rfl⟩)
    · rcases h3 with h3 | h3
      · exact ⟨a, List.mem_cons_self, h3.symm⟩
      · obtain ⟨c, hc, ec⟩ := List.mem_map.mp h3
        exact ⟨c, List.mem_cons_of_mem _ hc, ec⟩
    · have e2 : ((a :: r).map fun c => D.int (g c)) = (g a :: r.map g).map D.int := by simp
      rw [e2, zgD]
noncomputable def zm (f : List za) : Nat := (mx (·.2) f + 1).toNat
noncomputable def zi (f : List za) : Nat := (mx (·.1) f + 1).toNat
theorem ve {f : List za} (hf : OkF f) : 1 ≤ zm f ∧ zm f ≤ 8 ∧ ((zm f : Nat) : Int) = mx (·.2) f + 1 ∧ ∀ c ∈ f, c.2 < (zm f : Int) := by
  obtain ⟨h1, ⟨c, hc, e⟩, _⟩ := vd (g := (·.2)) hf.ne
  have := hf.cells c hc
  unfold yu at this
  have e : c.2 = mx (·.2) f := e
  unfold zm
  refine ⟨by omega, by omega, by omega, fun d hd => ?_⟩
  have : d.2 ≤ mx (·.2) f := h1 d hd
  omega
theorem vB {f : List za} (hf : OkF f) : 1 ≤ zi f ∧ zi f ≤ 8 ∧ ((zi f : Nat) : Int) = mx (·.1) f + 1 ∧ ∀ c ∈ f, c.1 < (zi f : Int) := by
  obtain ⟨h1, ⟨c, hc, e⟩, _⟩ := vd (g := (·.1)) hf.ne
  have := hf.cells c hc
  unfold yu at this
  have e : c.1 = mx (·.1) f := e
  unfold zi
  refine ⟨by omega, by omega, by omega, fun d hd => ?_⟩
  have : d.1 ≤ mx (·.1) f := h1 d hd
  omega
theorem zhk {f : List za} (hf : OkF f) : ∃ z : za, zb .idx [fD f, .int (-1)] = some (.val (cD z)) ∧ z.1 = mx (·.1) f := by
  have hp : 0 < f.length := List.length_pos_iff.mpr hf.ne
  have ei : ixN (f.map cD).length (-1) = some (f.length - 1) := by
    unfold ixN
    rw [if_neg (by omega), if_pos (by simp only [List.length_map]; omega)]
    congr 1
    simp only [List.length_map]
    omega
  refine ⟨f[f.length - 1]'(by omega), ?_, ?_⟩
  · unfold fD
    rw [gN]
    unfold atI
    rw [ei, Option.bind_some, List.getElem?_map, List.getElem?_eq_getElem (by omega)]
    rfl
  · obtain ⟨h1, ⟨c, hc, e⟩, _⟩ := vd (g := (·.1)) hf.ne
    have hz : (f[f.length - 1]'(by omega)).1 ≤ mx (·.1) f := h1 _ (List.getElem_mem (show f.length - 1 < f.length by omega))
    obtain ⟨k, hk, ek⟩ := List.getElem_of_mem hc
    have e : c.1 = mx (·.1) f := e
    have le : c.1 ≤ (f[f.length - 1]'(by omega)).1 := by
      by_cases hq : k = f.length - 1
      · subst hq; rw [ek]; exact Int.le_refl _
      · have := List.pairwise_iff_getElem.mp hf.rise k (f.length - 1) hk (by omega) (by omega)
        rw [ek] at this
        unfold yo at this
        omega
    omega
theorem vC (f : List za) (w r : Nat) : (zI f w r).length = w := by simp [zI]
theorem zhl (n : Nat) {f : List za} {w r : Nat} (hw : w ≤ 8) (hr : r ≤ 8) : zQ U zp (n + 1) 86 [fD f, .int (r : Int), .int (w : Int)] = some (.val (.str (tx (zI f w r ++ [10])))) := by
  rw [yK zgN rfl]
  have hl' := xn
  simp -implicitDefEqProofs only [ZJ]
  simp -implicitDefEqProofs
  rw [wG (rs := [.val (.int (w : Int))]) (xs := List.range w) (f := fun (k : Nat) => D.int (0 + (k : Int))) (fun c => .str (tx [yd f r c]))]
  · simp -implicitDefEqProofs only [Option.bind_some, List.map_cons, List.map_nil, JK, Option.map_some]
    rw [Qa (g := fun c => [yd f r c]) (by rw [List.map_map, XD (g := List.length ∘ fun c => [yd f r c]) (k := 1) (fun x _ => rfl)]; simp; omega)]
    have e : (List.range w).flatMap (fun c => [yd f r c]) = zI f w r := Qb _ _
    rw [e]
    simp -implicitDefEqProofs only [Option.bind_some, List.map_cons, List.map_nil, zgv, JY]
    rw [vA (by rw [vC]; simp; omega)]
    simp -implicitDefEqProofs
  · simp -implicitDefEqProofs
  · rw [vx (by unfold xt; omega)]; simp
  · simp; omega
  · intro c hc
    simp -implicitDefEqProofs
    rw [show D.tup [.int (r : Int), .int (c : Int)] = cD ((r : Int), (c : Int)) from rfl, zaf]
    unfold yd
    by_cases h : ((r : Int), (c : Int)) ∈ f <;> simp -implicitDefEqProofs [h, wH, zhi]
theorem Qc (f : List za) (w m : Nat) : (zP f w m).length = m * (w + 1) := by
  unfold zP
  rw [List.length_flatMap]
  have := XD (xs := List.range m) (g := fun r => (zI f w r ++ [10]).length) (k := w + 1) (fun r _ => by simp [vC])
  rw [List.length_range] at this
  exact this
theorem zap (n : Nat) {f : List za} (hf : OkF f) : zQ U zp (n + 5) 87 [fD f] = some (.val (.str (tx (zP f (zm f) (zi f))))) := by
  rw [yK zgO rfl]
  have hl' := xn
  have hlen := hf.len
  have ck := zg3 n hf
  obtain ⟨_, _, mc⟩ := vd (g := (·.2)) hf.ne
  obtain ⟨w1, w2, w3, _⟩ := ve hf
  obtain ⟨m1, m2, m3, _⟩ := vB hf
  obtain ⟨z, ez, zr⟩ := zhk hf
  have iz : zb .idx [cD z, .int 0] = some (.val (.int z.1)) := rfl
  simp -implicitDefEqProofs only [ZK]
  simp -implicitDefEqProofs [ck]
  rw [wG (rs := [.val (fD f)]) (xs := f) (f := cD) (fun c => .int c.2)]
  · simp -implicitDefEqProofs only [Option.bind_some, List.map_cons, List.map_nil, JK, Option.map_some, mc]
    simp -implicitDefEqProofs [ez, iz, zr, ← w3, ← m3]
    rw [wG (rs := [.val (.int (zi f : Int))]) (xs := List.range (zi f)) (f := fun (k : Nat) => D.int (0 + (k : Int))) (fun r => .str (tx (zI f (zm f) r ++ [10])))]
    · simp -implicitDefEqProofs only [Option.bind_some, List.map_cons, List.map_nil, JK, Option.map_some]
      rw [Qa (g := fun r => zI f (zm f) r ++ [10]) (by
        rw [List.map_map, XD (g := List.length ∘ fun r => zI f (zm f) r ++ [10]) (k := zm f + 1) (fun x _ => by simp [vC]), List.length_range]
        have : zi f * (zm f + 1) ≤ 8 * 9 := Nat.mul_le_mul m2 (by omega)
        omega)]
      simp -implicitDefEqProofs
      rfl
    · simp -implicitDefEqProofs [ez, iz, zr, ← m3]
    · rw [vx (by unfold xt; omega)]; simp
    · simp; omega
    · intro r hr
      rw [List.mem_range] at hr
      simp -implicitDefEqProofs [zhl (n + 3) (f := f) w2 (show r ≤ 8 by omega)]
  · simp -implicitDefEqProofs
  · rfl
  · omega
  · intro c hc
    simp -implicitDefEqProofs [cD]
end LK
namespace LK
open L2.LW
theorem zaq {i j : Nat} {body : Env → Option (Fl × Env)} (I : Nat → Env → Prop) : ∀ {l : List D} {n : Nat} {ρ : Env}, I n ρ →
    (∀ k ρ (hk : k < l.length), I (n + k) ρ → ∃ ρ', body ((ρ.set i (some (.val (.int ((n + k : Nat) : Int))))).set j (some (.val l[k]))) = some (.nx, ρ') ∧ I (n + k + 1) ρ') →
    ∃ ρ', xB i j body (yR n l) ρ = some (.nx, ρ') ∧ I (n + l.length) ρ'
  | [], n, ρ, h0, _ => ⟨ρ, rfl, h0⟩
  | d :: l, n, ρ, h0, st => by
    obtain ⟨ρ1, e1, h1⟩ := st 0 ρ (by simp) h0
    obtain ⟨ρ2, e2, h2⟩ := zaq I (l := l) (n := n + 1) (ρ := ρ1) h1 fun k ρ hk h => by
      have := st (k + 1) ρ (by simp; omega) (by rw [show n + (k + 1) = n + 1 + k by omega]; exact h)
      rw [show n + (k + 1) = n + 1 + k by omega] at this
      exact this
    refine ⟨ρ2, ?_, by rw [List.length_cons, show n + (l.length + 1) = n + 1 + l.length by omega]; exact h2⟩
    rw [yR, xB]
    have e1' : body ((ρ.set i (some (.val (.int (n : Int))))).set j (some (.val d))) = some (.nx, ρ1) := e1
    rw [e1']
    exact e2
theorem XE {i j : Nat} {body : Env → Option (Fl × Env)} (I : Nat → Env → Prop) {l : List D} {ρ : Env} (h0 : I 0 ρ)
    (st : ∀ k ρ (hk : k < l.length), I k ρ → ∃ ρ', body ((ρ.set i (some (.val (.int (k : Int))))).set j (some (.val l[k]))) = some (.nx, ρ') ∧ I (k + 1) ρ') :
    ∃ ρ', xB i j body (yR 0 l) ρ = some (.nx, ρ') ∧ I l.length ρ' := by
  have := zaq (i := i) (j := j) (body := body) I (l := l) (n := 0) (ρ := ρ) h0 fun k ρ hk h => by
    have := st k ρ hk (by simpa using h)
    simpa using this
  simpa using this
noncomputable def yT (f : List za) (r : Nat) (w : Nat) : List za := ((List.range w).filter fun (c : Nat) => decide (((r : Int), (c : Int)) ∈ f)).map fun (c : Nat) => ((r : Int), (c : Int))
theorem zhm (f : List za) (r w : Nat) : yT f r (w + 1) = yT f r w ++ (if ((r : Int), (w : Int)) ∈ f then [((r : Int), (w : Int))] else []) := by
  unfold yT
  rw [List.range_succ, List.filter_append, List.map_append]
  by_cases h : ((r : Int), (w : Int)) ∈ f <;> simp [h]
noncomputable def xT (f : List za) (w m : Nat) : List za := (List.range m).flatMap fun r => yT f r w
theorem XF {f : List za} {r w : Nat} {x : za} : x ∈ yT f r w ↔ x ∈ f ∧ x.1 = r ∧ 0 ≤ x.2 ∧ x.2 < w := by
  unfold yT
  rw [List.mem_map]
  constructor
  · rintro ⟨c, hc, rfl⟩
    rw [List.mem_filter, List.mem_range] at hc
    exact ⟨by simpa using hc.2, rfl, by simp only; omega, by simp only; omega⟩
  · rintro ⟨h1, h2, h3, h4⟩
    refine ⟨x.2.toNat, ?_, ?_⟩
    · rw [List.mem_filter, List.mem_range]
      refine ⟨by omega, ?_⟩
      have : ((r : Int), ((x.2.toNat : Nat) : Int)) = x := Prod.ext h2.symm (by simp only; omega)
      rw [this]; simpa using h1
    · exact Prod.ext h2.symm (by simp only; omega)
theorem zhn {f : List za} (hf : OkF f) : xT f (zm f) (zi f) = f := by
  obtain ⟨_, _, _, hw⟩ := ve hf
  obtain ⟨_, _, _, hm⟩ := vB hf
  refine zan (R := yo) (fun a => zaa) (fun a b => zg1) ?_ hf.rise fun x => ?_
  · unfold xT
    rw [List.pairwise_flatMap]
    refine ⟨fun r _ => ?_, ?_⟩
    · unfold yT
      rw [List.pairwise_map]
      refine List.Pairwise.filter _ (List.pairwise_lt_range.imp fun h => ?_)
      exact Or.inr ⟨rfl, by simp only; omega⟩
    · refine List.pairwise_lt_range.imp fun {a b} h x hx y hy => ?_
      have h1 := (XF.mp hx).2.1
      have h2 := (XF.mp hy).2.1
      unfold yo; omega
  · unfold xT
    rw [List.mem_flatMap]
    constructor
    · rintro ⟨r, _, hx⟩; exact (XF.mp hx).1
    · intro hx
      have ok := hf.cells x hx
      unfold yu at ok
      have := hm x hx
      refine ⟨x.1.toNat, List.mem_range.mpr (by omega), XF.mpr ⟨hx, by omega, by omega, hw x hx⟩⟩
theorem XG (c : Nat) : ∀ ps : List (List Nat), yn c (ps ++ [[]]) = ps.flatMap fun p => p ++ [c]
  | [] => rfl
  | [p] => by simp [yn]
  | p :: q :: r => by
    have ih := XG c (q :: r)
    show p ++ c :: yn c (q :: r ++ [[]]) = _
    rw [ih]
    simp
theorem Qd (f : List za) (w m : Nat) : yQ (tx (zP f w m)) = (List.range m).map (fun r => tx (zI f w r)) ++ [tx []] := by
  have e : zP f w m = yn 10 ((List.range m).map (zI f w) ++ [[]]) := by
    rw [XG, List.flatMap_map]; rfl
  have fr : ∀ p ∈ (List.range m).map (zI f w) ++ [[]], 10 ∉ p := fun p hp => by
    rw [List.mem_append, List.mem_map] at hp
    rcases hp with ⟨r, _, rfl⟩ | hp
    · unfold zI
      rw [List.mem_map]
      rintro ⟨c, _, h⟩
      unfold yd at h
      split at h <;> omega
    · simp at hp; subst hp; simp
  unfold yQ
  rw [show (tx (zP f w m)).cps.toList = zP f w m by simp [tx], e, Xk (by simp) fr, List.map_append, List.map_map]
  rfl
theorem zho (f : List za) (w r : Nat) : xh (tx (zI f w r)) = (List.range w).map fun c => D.str (tx [yd f r c]) := by
  unfold xh zI
  simp [tx]
theorem zar {f : List za} {r c : Nat} : zb .eqS [.str (tx [yd f r c]), .str (tx [35])] = some (.val (.bl (decide (((r : Int), (c : Int)) ∈ f)))) := by
  simp only [zb, jo]
  congr 3
  rw [Bool.eq_iff_iff, decide_eq_true_iff, decide_eq_true_iff]
  unfold yd
  constructor
  · intro h
    have := XC h
    split at this
    · assumption
    · simp at this
  · intro h; rw [if_pos h]
noncomputable def yp (t : PySem.Str) (acc : List za) (s2 s3 s4 s5 : Option SV) : Env := [some (.val (.str t)), some (.obj true (lD acc)), s2, s3, s4, s5]
theorem zas (f : List za) (r w : Nat) : (yT f r w).length ≤ w := by
  unfold yT
  rw [List.length_map]
  exact Nat.le_trans (List.length_filter_le _ _) (by simp)
theorem zat {ρ : Env} {i : Nat} {c : za} {w : List za} (h : w.length < line) : ZA ρ i (some (.val (cD c))) (some (some (.obj true (lD w)))) = some (.nx, ρ.set i (some (.obj true (lD (w ++ [c]))))) := by
  rw [lD, zgs]
  simp only [Option.bind_some, zgw, List.length_map, h, if_true]
  simp [lD]
theorem zau (n : Nat) {f : List za} {w r : Nat} {t : PySem.Str} {acc : List za} {s4 s5 : Option SV} (hw : w ≤ 8) (ha : acc.length ≤ 1000) (h4 : zK (some s4) = true) (h5 : zK (some s5) = true) :
    ∃ s4' s5', zv (zn U zp n) zp vR (yp t acc (some (.val (.int (r : Int)))) (some (.val (.str (tx (zI f w r))))) s4 s5) = some (.nx, yp t (acc ++ yT f r w) (some (.val (.int (r : Int)))) (some (.val (.str (tx (zI f w r))))) s4' s5') ∧ zK (some s4') = true ∧ zK (some s5') = true := by
  have hl' := xn
  obtain ⟨ρ', e, s4', s5', rfl, q4, q5⟩ := XE (i := 4) (j := 5) (body := zv (zn U zp n) zp ZL) (l := (List.range w).map fun c => D.str (tx [yd f r c]))
    (ρ := yp t acc (some (.val (.int (r : Int)))) (some (.val (.str (tx (zI f w r))))) s4 s5)
    (fun k ρ => ∃ s4' s5', ρ = yp t (acc ++ yT f r k) (some (.val (.int (r : Int)))) (some (.val (.str (tx (zI f w r))))) s4' s5' ∧ zK (some s4') = true ∧ zK (some s5') = true)
    ⟨s4, s5, by simp [yT], h4, h5⟩ (by
      rintro k ρ hk ⟨a4, a5, rfl, g4, g5⟩
      have hk : k < w := by simpa using hk
      have lr := zas f r k
      refine ⟨_, ?_, some (.val (.int (k : Int))), some (.val (.str (tx [yd f r k]))), rfl, yS, yS⟩
      rw [zhm]
      simp -implicitDefEqProofs only [ZL, yp, List.set_cons_succ, List.set_cons_zero, List.getElem_map, List.getElem_range]
      by_cases h : ((r : Int), (k : Int)) ∈ f
      · have ap : ∀ (ρ : Env), ZA ρ 1 (some (.val (.tup [.int (r : Int), .int (k : Int)]))) (some (some (.obj true (lD (acc ++ yT f r k))))) = some (.nx, ρ.set 1 (some (.obj true (lD (acc ++ (yT f r k ++ [((r : Int), (k : Int))])))))) := fun ρ => by
          have := zat (ρ := ρ) (i := 1) (c := ((r : Int), (k : Int))) (w := acc ++ yT f r k) (by rw [List.length_append]; omega)
          rw [List.append_assoc] at this
          exact this
        simp -implicitDefEqProofs [wH, zar, h, ap]
      · simp -implicitDefEqProofs [wH, zar, h])
  refine ⟨s4', s5', ?_, q4, q5⟩
  have hd : wQ (.val (.str (tx (zI f w r)))) = some (yR 0 ((List.range w).map fun c => D.str (tx [yd f r c]))) := by
    rw [← zho]; rfl
  simp -implicitDefEqProofs only [vR]
  simp -implicitDefEqProofs [Xn, yp, h4, h5, hd]
  rw [← yp, e, List.length_map, List.length_range]
  simp -implicitDefEqProofs [yp]
theorem zav (f : List za) (w m : Nat) : (xT f w m).length ≤ m * w := by
  unfold xT
  rw [List.length_flatMap]
  have : ∀ l : List Nat, (l.map fun r => (yT f r w).length).sum ≤ l.length * w := fun l => by
    induction l with
    | nil => simp
    | cons a r ih =>
      rw [List.map_cons, List.sum_cons, List.length_cons, Nat.succ_mul]
      have := zas f a w
      omega
  have := this (List.range m)
  rwa [List.length_range] at this
theorem zhp (f : List za) (w m : Nat) : xT f w (m + 1) = xT f w m ++ yT f m w := by
  unfold xT
  rw [List.range_succ, List.flatMap_append]
  simp
theorem zaw (n : Nat) {f : List za} (hf : OkF f) : zQ U zp (n + 1) 98 [.str (tx (zP f (zm f) (zi f)))] = some (.val (fD f)) := by
  have hl' := xn
  obtain ⟨w1, w2, w3, _⟩ := ve hf
  obtain ⟨m1, m2, m3, _⟩ := vB hf
  have eL : ((yQ (tx (zP f (zm f) (zi f)))).map D.str).length = zi f + 1 := by rw [Qd]; simp
  obtain ⟨ρ', e, s2, s3, s4, s5, rfl, q2, q3, q4, q5⟩ := XE (i := 2) (j := 3) (body := zv (zn U zp n) zp vR) (l := (yQ (tx (zP f (zm f) (zi f)))).map D.str)
    (ρ := yp (tx (zP f (zm f) (zi f))) [] none none none none)
    (fun k ρ => ∃ s2 s3 s4 s5, ρ = yp (tx (zP f (zm f) (zi f))) (xT f (zm f) (min k (zi f))) s2 s3 s4 s5 ∧ zK (some s2) = true ∧ zK (some s3) = true ∧ zK (some s4) = true ∧ zK (some s5) = true)
    ⟨none, none, none, none, by simp [xT], rfl, rfl, rfl, rfl⟩ (by
      rintro k ρ hk ⟨a2, a3, a4, a5, rfl, g2, g3, g4, g5⟩
      have hk' : k < zi f + 1 := by rw [← eL]; exact hk
      by_cases hm : k < zi f
      · have hlen : (xT f (zm f) k).length ≤ 1000 := by
          have := zav f (zm f) k
          have : k * zm f ≤ 8 * 8 := Nat.mul_le_mul (by omega) w2
          omega
        obtain ⟨b4, b5, eb, h4, h5⟩ := zau n (f := f) (w := zm f) (r := k) (t := tx (zP f (zm f) (zi f))) (acc := xT f (zm f) k) w2 hlen g4 g5
        have ek : ((yQ (tx (zP f (zm f) (zi f)))).map D.str)[k] = D.str (tx (zI f (zm f) k)) := by
          have : ((yQ (tx (zP f (zm f) (zi f)))).map D.str)[k]? = some (D.str (tx (zI f (zm f) k))) := by
            rw [Qd]
            simp [List.getElem?_append, hm]
          rw [List.getElem?_eq_getElem hk] at this
          exact Option.some.inj this
        refine ⟨_, ?_, some (.val (.int (k : Int))), some (.val (.str (tx (zI f (zm f) k)))), _, _, rfl, yS, yS, h4, h5⟩
        rw [ek, show min k (zi f) = k by omega, show min (k + 1) (zi f) = k + 1 by omega, zhp]
        exact eb
      · have hm : k = zi f := by omega
        subst hm
        obtain ⟨b4, b5, eb, h4, h5⟩ := zau n (f := f) (w := 0) (r := zi f) (t := tx (zP f (zm f) (zi f))) (acc := xT f (zm f) (zi f)) (by omega) (by
          have := zav f (zm f) (zi f)
          have : zi f * zm f ≤ 8 * 8 := Nat.mul_le_mul (by omega) w2
          omega) g4 g5
        have ek : ((yQ (tx (zP f (zm f) (zi f)))).map D.str)[zi f] = D.str (tx (zI f 0 (zi f))) := by
          have : ((yQ (tx (zP f (zm f) (zi f)))).map D.str)[zi f]? = some (D.str (tx (zI f 0 (zi f)))) := by
            rw [Qd]
            simp [List.getElem?_append, zI]
          rw [List.getElem?_eq_getElem hk] at this
          exact Option.some.inj this
        refine ⟨_, ?_, some (.val (.int (zi f : Int))), some (.val (.str (tx (zI f 0 (zi f))))), _, _, rfl, yS, yS, h4, h5⟩
        rw [ek, show min (zi f) (zi f) = zi f by omega, show min (zi f + 1) (zi f) = zi f by omega]
        rw [show yT f (zi f) 0 = [] from rfl, List.append_nil] at eb
        exact eb)
  rw [eL, show min (zi f + 1) (zi f) = zi f by omega, zhn hf] at e
  have hs : zb .splitN [.str (tx (zP f (zm f) (zi f)))] = some (.obj true (.lst ((yQ (tx (zP f (zm f) (zi f)))).map D.str))) := by
    have : (tx (zP f (zm f) (zi f))).length ≤ 10000000 := by
      rw [xo, Qc]
      have : zi f * (zm f + 1) ≤ 8 * 9 := Nat.mul_le_mul m2 (by omega)
      omega
    simp only [zb, wP, if_pos this]
  have hd : wQ (.obj true (.lst ((yQ (tx (zP f (zm f) (zi f)))).map D.str))) = some (yR 0 ((yQ (tx (zP f (zm f) (zi f)))).map D.str)) := rfl
  generalize zP f (zm f) (zi f) = t at *
  rw [yK gU rfl]
  simp -implicitDefEqProofs only [jF]
  simp -implicitDefEqProofs [Xn, hs, hd]
  rw [show (D.lst []) = lD [] from rfl, ← yp, e]
  simp -implicitDefEqProofs [yp, lD, fD]
theorem Qf {a b : PySem.Str} : zb .neS [.str a, .str b] = some (.val (.bl (!decide (a = b)))) := rfl
theorem zhq (n : Nat) {f : List za} (hf : OkF f) : zQ U zp (n + 6) 99 [.str (tx (zP f (zm f) (zi f)))] = some (.val (fD f)) := by
  rw [yK zgP rfl]
  have h1 := zaw (n + 4) hf
  have h2 := zae (n + 2) hf
  have h3 := zap n hf
  generalize zP f (zm f) (zi f) = t at *
  have hi : zb (.inst .str) [.str (tx t)] = some (.val (.bl true)) := rfl
  simp -implicitDefEqProofs only [ZM]
  simp -implicitDefEqProofs [h1, h2, h3, hi, Qf]
end LK
namespace LK
open L2.LW
noncomputable def yU (r : Nat) (p : List Nat) : List za := ((List.range p.length).filter fun c => decide (p.getD c 0 = 35)).map fun (c : Nat) => ((r : Int), (c : Int))
noncomputable def zC (ps : List (List Nat)) (m : Nat) : List za := (List.range m).flatMap fun r => yU r (ps.getD r [])
theorem zax (r : Nat) (p : List Nat) : (yU r p).length ≤ p.length := by
  unfold yU
  rw [List.length_map]
  exact Nat.le_trans (List.length_filter_le _ _) (by simp)
theorem ZS (ps : List (List Nat)) (m : Nat) : zC ps (m + 1) = zC ps m ++ yU m (ps.getD m []) := by
  unfold zC
  rw [List.range_succ, List.flatMap_append]
  simp
theorem Qg {r : Nat} {p : List Nat} {x : za} : x ∈ yU r p ↔ ∃ c : Nat, c < p.length ∧ p.getD c 0 = 35 ∧ x = ((r : Int), (c : Int)) := by
  unfold yU
  rw [List.mem_map]
  constructor
  · rintro ⟨c, hc, rfl⟩
    rw [List.mem_filter, List.mem_range, decide_eq_true_iff] at hc
    exact ⟨c, hc.1, hc.2, rfl⟩
  · rintro ⟨c, h1, h2, rfl⟩
    exact ⟨c, List.mem_filter.mpr ⟨List.mem_range.mpr h1, by simpa using h2⟩, rfl⟩
theorem XH {ps : List (List Nat)} {m : Nat} {x : za} : x ∈ zC ps m ↔ ∃ r c : Nat, r < m ∧ c < (ps.getD r []).length ∧ (ps.getD r []).getD c 0 = 35 ∧ x = ((r : Int), (c : Int)) := by
  unfold zC
  rw [List.mem_flatMap]
  constructor
  · rintro ⟨r, hr, hx⟩
    obtain ⟨c, h1, h2, h3⟩ := Qg.mp hx
    exact ⟨r, c, List.mem_range.mp hr, h1, h2, h3⟩
  · rintro ⟨r, c, hr, h1, h2, h3⟩
    exact ⟨r, List.mem_range.mpr hr, Qg.mpr ⟨c, h1, h2, h3⟩⟩
theorem zhr (r : Nat) (p : List Nat) : (yU r p).Pairwise yo := by
  unfold yU
  rw [List.pairwise_map]
  refine (List.pairwise_lt_range.filter _).imp fun h => ?_
  unfold yo
  right
  exact ⟨rfl, by simpa using h⟩
theorem Qh (ps : List (List Nat)) : ∀ m, (zC ps m).Pairwise yo
  | 0 => by simp [zC]
  | m + 1 => by
    rw [ZS, List.pairwise_append]
    refine ⟨Qh ps m, zhr _ _, fun x hx y hy => ?_⟩
    obtain ⟨r, c, hr, _, _, rfl⟩ := XH.mp hx
    obtain ⟨d, _, _, rfl⟩ := Qg.mp hy
    left
    show (r : Int) < (m : Int)
    omega
theorem ZT (c : Nat) : ∀ t : List Nat, ((zt c t).map List.length).sum ≤ t.length ∧ (zt c t).length ≤ t.length + 1 ∧ zt c t ≠ []
  | [] => by simp [zt]
  | a :: r => by
    obtain ⟨h1, h2, h3⟩ := ZT c r
    unfold zt
    split
    · simp; omega
    · split
      · rename_i p ps e
        rw [e] at h1 h2
        simp at h1 h2 ⊢; omega
      · rename_i e; exact absurd e h3
theorem zay (c : Nat) : ∀ t : List Nat, yn c (zt c t) = t
  | [] => rfl
  | a :: r => by
    have ih := zay c r
    have h3 := (ZT c r).2.2
    unfold zt
    split
    · rename_i e
      subst e
      cases hq : zt a r with
      | nil => exact absurd hq h3
      | cons p ps =>
        rw [hq] at ih
        show [] ++ a :: yn a (p :: ps) = _
        rw [ih]; rfl
    · split
      · rename_i p ps e
        rw [e] at ih
        cases ps with
        | nil =>
          show a :: p = _
          rw [← ih]; rfl
        | cons q qs =>
          show (a :: p) ++ c :: yn c (q :: qs) = _
          rw [← ih]; rfl
      · rename_i e; exact absurd e h3
theorem zaz {ps : List (List Nat)} {k n : Nat} (h : (ps.map List.length).sum ≤ n) : (ps.getD k []).length ≤ n := by
  induction ps generalizing k n with
  | nil => simp
  | cons p r ih =>
    simp at h
    cases k with
    | zero => simp; omega
    | succ k =>
      have := ih (k := k) (n := (r.map List.length).sum) (Nat.le_refl _)
      simp only [List.getD_cons_succ]
      omega
theorem Qi (ps : List (List Nat)) : ∀ m, (zC ps m).length ≤ ((ps.take m).map List.length).sum
  | 0 => by simp [zC]
  | m + 1 => by
    rw [ZS, List.length_append]
    have ih := Qi ps m
    have h := zax m (ps.getD m [])
    by_cases hm : m < ps.length
    · have e : ps.getD m [] = ps[m] := by rw [List.getD_eq_getElem?_getD, List.getElem?_eq_getElem hm]; rfl
      rw [List.take_add_one, List.getElem?_eq_getElem hm, List.map_append, List.sum_append]
      rw [e] at h ⊢
      have e2 : ((some ps[m]).toList.map List.length).sum = ps[m].length := by simp
      rw [e2]
      omega
    · have e : ps.getD m [] = [] := by rw [List.getD_eq_getElem?_getD, List.getElem?_eq_none (by omega)]; rfl
      rw [e] at h ⊢
      have e3 : (yU m []).length = 0 := by simpa using h
      rw [List.take_of_length_le (by omega : ps.length ≤ m)] at ih
      rw [List.take_of_length_le (by omega : ps.length ≤ m + 1), e3]
      omega
theorem Qj (ps : List (List Nat)) (m : Nat) : ((ps.take m).map List.length).sum ≤ (ps.map List.length).sum := by
  have e : ps.map List.length = (ps.take m).map List.length ++ (ps.drop m).map List.length := by rw [← List.map_append, List.take_append_drop]
  rw [e, List.sum_append]; omega
theorem zhs (p : List Nat) : xh (tx p) = (List.range p.length).map fun c => D.str (tx [p.getD c 0]) := by
  unfold xh
  apply List.ext_getElem?
  intro k
  rw [List.getElem?_map, List.getElem?_map]
  show Option.map _ ((tx p).cps.toList[k]?) = _
  rw [show (tx p).cps.toList = p by simp [tx]]
  by_cases h : k < p.length
  · rw [List.getElem?_range h, List.getElem?_eq_getElem h]
    show some (D.str (tx [p[k]])) = some (D.str (tx [p.getD k 0]))
    rw [List.getD_eq_getElem?_getD, List.getElem?_eq_getElem h]; rfl
  · rw [List.getElem?_eq_none (by omega), List.getElem?_eq_none (by simp; omega)]; rfl
theorem Qk {a : Nat} : zb .eqS [.str (tx [a]), .str (tx [35])] = some (.val (.bl (decide (a = 35)))) := by
  simp only [zb, jo]
  congr 3
  rw [Bool.eq_iff_iff, decide_eq_true_iff, decide_eq_true_iff]
  exact ⟨fun h => by simpa using XC h, fun h => by rw [h]⟩
noncomputable def wd (r : Nat) (p : List Nat) (k : Nat) : List za := ((List.range k).filter fun c => decide (p.getD c 0 = 35)).map fun (c : Nat) => ((r : Int), (c : Int))
theorem zht (r : Nat) (p : List Nat) (k : Nat) : wd r p (k + 1) = wd r p k ++ (if p.getD k 0 = 35 then [((r : Int), (k : Int))] else []) := by
  unfold wd
  rw [List.range_succ, List.filter_append, List.map_append]
  congr 1
  by_cases h : p.getD k 0 = 35
  · rw [if_pos h, List.filter_cons_of_pos (by simpa using h)]; rfl
  · rw [if_neg h, List.filter_cons_of_neg (by simpa using h)]; rfl
theorem zhu (r : Nat) (p : List Nat) (k : Nat) : (wd r p k).length ≤ k := by
  unfold wd
  rw [List.length_map]
  exact Nat.le_trans (List.length_filter_le _ _) (by simp)
theorem zhv (n : Nat) {r : Nat} {p : List Nat} {t : PySem.Str} {acc : List za} {s4 s5 : Option SV} (hp : p.length ≤ 2000) (ha : acc.length ≤ 2000) (h4 : zK (some s4) = true) (h5 : zK (some s5) = true) :
    ∃ s4' s5', zv (zn U zp n) zp vR (yp t acc (some (.val (.int (r : Int)))) (some (.val (.str (tx p)))) s4 s5) = some (.nx, yp t (acc ++ yU r p) (some (.val (.int (r : Int)))) (some (.val (.str (tx p)))) s4' s5') ∧ zK (some s4') = true ∧ zK (some s5') = true := by
  have hl' := xn
  obtain ⟨ρ', e, s4', s5', rfl, q4, q5⟩ := XE (i := 4) (j := 5) (body := zv (zn U zp n) zp ZL) (l := (List.range p.length).map fun c => D.str (tx [p.getD c 0]))
    (ρ := yp t acc (some (.val (.int (r : Int)))) (some (.val (.str (tx p)))) s4 s5)
    (fun k ρ => ∃ s4' s5', ρ = yp t (acc ++ wd r p k) (some (.val (.int (r : Int)))) (some (.val (.str (tx p)))) s4' s5' ∧ zK (some s4') = true ∧ zK (some s5') = true)
    ⟨s4, s5, by simp [wd], h4, h5⟩ (by
      rintro k ρ hk ⟨a4, a5, rfl, g4, g5⟩
      have hk : k < p.length := by simpa using hk
      have lr := zhu r p k
      refine ⟨_, ?_, some (.val (.int (k : Int))), some (.val (.str (tx [p.getD k 0]))), rfl, yS, yS⟩
      rw [zht]
      simp -implicitDefEqProofs only [ZL, yp, List.set_cons_succ, List.set_cons_zero, List.getElem_map, List.getElem_range]
      by_cases h : p.getD k 0 = 35
      · have ap : ∀ (ρ : Env), ZA ρ 1 (some (.val (.tup [.int (r : Int), .int (k : Int)]))) (some (some (.obj true (lD (acc ++ wd r p k))))) = some (.nx, ρ.set 1 (some (.obj true (lD (acc ++ (wd r p k ++ [((r : Int), (k : Int))])))))) := fun ρ => by
          have := zat (ρ := ρ) (i := 1) (c := ((r : Int), (k : Int))) (w := acc ++ wd r p k) (by rw [List.length_append]; omega)
          rw [List.append_assoc] at this
          exact this
        rw [h, if_pos rfl]
        generalize acc ++ wd r p k = A at *
        simp -implicitDefEqProofs [wH, Qk, ap]
      · rw [if_neg h, List.append_nil]
        have e0 := Qk (a := p.getD k 0)
        rw [decide_eq_false h] at e0
        generalize p.getD k 0 = a at *
        simp -implicitDefEqProofs [wH, e0])
  refine ⟨s4', s5', ?_, q4, q5⟩
  have hd : wQ (.val (.str (tx p))) = some (yR 0 ((List.range p.length).map fun c => D.str (tx [p.getD c 0]))) := by
    rw [← zhs]; rfl
  rw [List.length_map, List.length_range, show wd r p p.length = yU r p from rfl] at e
  generalize (List.range p.length).map (fun c => D.str (tx [p.getD c 0])) = SG at *
  simp -implicitDefEqProofs only [vR]
  simp -implicitDefEqProofs [Xn, yp, h4, h5, hd]
  rw [← yp, e]
  simp -implicitDefEqProofs [yp]
theorem Ql (t : List Nat) : yQ (tx t) = (zt 10 t).map tx := by
  unfold yQ
  rw [show (tx t).cps.toList = t by simp [tx]]
  rfl
theorem zaA (n : Nat) {t : List Nat} (ht : t.length ≤ 1000) : zQ U zp (n + 1) 98 [.str (tx t)] = some (.val (fD (zC (zt 10 t) (zt 10 t).length))) := by
  have hl' := xn
  obtain ⟨l1, l2, l3⟩ := ZT 10 t
  have hs : zb .splitN [.str (tx t)] = some (.obj true (.lst ((yQ (tx t)).map D.str))) := by
    have : (tx t).length ≤ 10000000 := by rw [xo]; omega
    simp only [zb, wP, if_pos this]
  rw [Ql] at hs
  generalize hR : zt 10 t = R at *
  have eL : ((R.map tx).map D.str).length = R.length := by simp
  obtain ⟨ρ', e, s2, s3, s4, s5, rfl, q2, q3, q4, q5⟩ := XE (i := 2) (j := 3) (body := zv (zn U zp n) zp vR) (l := (R.map tx).map D.str)
    (ρ := yp (tx t) [] none none none none)
    (fun k ρ => ∃ s2 s3 s4 s5, ρ = yp (tx t) (zC R k) s2 s3 s4 s5 ∧ zK (some s2) = true ∧ zK (some s3) = true ∧ zK (some s4) = true ∧ zK (some s5) = true)
    ⟨none, none, none, none, by simp [zC], rfl, rfl, rfl, rfl⟩ (by
      rintro k ρ hk ⟨a2, a3, a4, a5, rfl, g2, g3, g4, g5⟩
      have hk' : k < R.length := by rw [← eL]; exact hk
      have hlen : (zC R k).length ≤ 2000 := by
        have := Qi R k
        have := Qj R k
        omega
      have hp : (R.getD k []).length ≤ 2000 := zaz (by omega)
      obtain ⟨b4, b5, eb, h4, h5⟩ := zhv n (r := k) (p := R.getD k []) (t := tx t) (acc := zC R k) hp hlen g4 g5
      have ek : ((R.map tx).map D.str)[k] = D.str (tx (R.getD k [])) := by
        rw [List.getElem_map, List.getElem_map, List.getD_eq_getElem?_getD, List.getElem?_eq_getElem hk']; rfl
      refine ⟨_, ?_, some (.val (.int (k : Int))), some (.val (.str (tx (R.getD k [])))), _, _, rfl, yS, yS, h4, h5⟩
      rw [ek, ZS]
      exact eb)
  rw [eL] at e
  have hd : wQ (.obj true (.lst ((R.map tx).map D.str))) = some (yR 0 ((R.map tx).map D.str)) := rfl
  generalize (R.map tx).map D.str = RS at *
  rw [yK gU rfl]
  simp -implicitDefEqProofs only [jF]
  simp -implicitDefEqProofs [Xn, hs, hd]
  rw [show (D.lst []) = lD [] from rfl, ← yp, e]
  simp -implicitDefEqProofs [yp, lD, fD]
end LK
namespace LK
open L2.LW
noncomputable instance (c : za) : Decidable (yu c) := by unfold yu; exact inferInstance
theorem zhw (n : Nat) (c : za) : zQ U zp (n + 2) 2 [cD c] = some (.val (.bl (decide (yu c)))) := by
  rw [yK U2 rfl]
  have h0 := gZ n c
  have i0 : zb .idx [cD c, .int 0] = some (.val (.int c.1)) := rfl
  have i1 : zb .idx [cD c, .int 1] = some (.val (.int c.2)) := rfl
  have w0 := Xw n c.1 0 7
  have w1 := Xw n c.2 0 7
  have e : decide (yu c) = ((decide (0 ≤ c.1) && decide (c.1 ≤ 7)) && (decide (0 ≤ c.2) && decide (c.2 ≤ 7))) := by
    by_cases h : yu c
    · rw [decide_eq_true h]
      obtain ⟨a, b, d, f⟩ := h
      simp [a, b, d, f]
    · rw [decide_eq_false h]
      symm
      rw [Bool.eq_false_iff]
      intro z
      simp only [Bool.and_eq_true, decide_eq_true_iff] at z
      exact h ⟨z.1.1, z.1.2, z.2.1, z.2.2⟩
  rw [e]
  generalize (decide (0 ≤ c.1) && decide (c.1 ≤ 7)) = a at *
  generalize (decide (0 ≤ c.2) && decide (c.2 ≤ 7)) = b at *
  simp -implicitDefEqProofs only [jE]
  cases a <;> cases b <;> simp -implicitDefEqProofs [h0, i0, i1, w0, w1]
noncomputable def jI (g : List za) : Bool := decide (1 ≤ g.length ∧ g.length ≤ 24) && g.all fun c => decide (yu c)
theorem zhx (n : Nat) {g : List za} (hr : g.Pairwise yo) : zQ U zp (n + 3) 5 [fD g] = some (.val (.bl (jI g))) := by
  have hl' := xn
  rw [yK U5 rfl]
  unfold jI
  by_cases hb : 1 ≤ g.length ∧ g.length ≤ 24
  · rw [decide_eq_true hb, Bool.true_and]
    have h1 : 1 ≤ (g.length : Int) := by omega
    have h2 : (g.length : Int) ≤ 24 := by omega
    have ri := zad (n + 1) (by omega) hr
    have cm : zf (zQ U zp (n + 2)) (.comp false (.cons (.var 0) .nil) (.bl true) (.call 2 (.cons (.var 0) .nil))) [some (.val (fD g))] = some (.obj true (.lst (g.map fun x => .bl (decide (yu x))))) := by
      rw [wG (rs := [.val (fD g)]) (xs := g) (f := cD) (fun x => .bl (decide (yu x)))]
      · simp
      · rfl
      · omega
      · intro x _
        simp -implicitDefEqProofs [zhw n x]
    have pa : zb .all [.lst (g.map fun x => .bl (decide (yu x)))] = some (.val (.bl (g.all fun x => decide (yu x)))) := JS
    generalize (g.all fun x => decide (yu x)) = b at *
    generalize (g.map fun x => D.bl (decide (yu x))) = L at *
    simp -implicitDefEqProofs only [vQ]
    cases b <;> simp -implicitDefEqProofs [Xx, h1, h2, cm, pa, ri]
  · rw [decide_eq_false hb, Bool.false_and]
    simp -implicitDefEqProofs only [vQ]
    by_cases h1 : 1 ≤ (g.length : Int)
    · have h2 : ¬ (g.length : Int) ≤ 24 := by omega
      simp -implicitDefEqProofs [Xx, h1, h2]
    · simp -implicitDefEqProofs [Xx, h1]
theorem zhy {g : List za} (hr : g.Pairwise yo) : jI g = true ↔ OkF g := by
  unfold jI
  rw [Bool.and_eq_true, decide_eq_true_iff, List.all_eq_true]
  constructor
  · rintro ⟨⟨h1, h2⟩, h3⟩
    exact ⟨fun z => by rw [z] at h1; simp at h1, h2, fun c hc => by simpa using h3 c hc, hr⟩
  · intro h
    have := List.length_pos_iff.mpr h.ne
    exact ⟨⟨by omega, h.len⟩, fun c hc => by simpa using h.cells c hc⟩
noncomputable def xH (t : List Nat) (f : List za) : Prop := OkF f ∧ t = zP f (zm f) (zi f)
theorem zhz {t : List Nat} {f : List za} (ht : t.length ≤ 1000) (h : xH t f) : zC (zt 10 t) (zt 10 t).length = f := by
  have e1 := zaA 0 ht
  have e2 := zaw 0 h.1
  rw [← h.2] at e2
  rw [e1] at e2
  have e3 : fD (zC (zt 10 t) (zt 10 t).length) = fD f := by
    injection e2 with e2
    injection e2
  unfold fD at e3
  injection e3 with e3
  have inj : ∀ (a b : List za), a.map cD = b.map cD → a = b := by
    intro a
    induction a with
    | nil => intro b hb; cases b with
      | nil => rfl
      | cons x y => simp at hb
    | cons x r ih =>
      intro b hb
      cases b with
      | nil => simp at hb
      | cons y s =>
        simp only [List.map_cons, List.cons.injEq] at hb
        rw [ih s hb.2]
        have : x = y := by
          have h1 := hb.1
          unfold cD at h1
          simp at h1
          exact Prod.ext h1.1 h1.2
        rw [this]
  exact inj _ _ e3
theorem zhA (n : Nat) {t : List Nat} (ht : t.length ≤ 1000) (h : ∀ f, ¬ xH t f) : zn U zp (n + 6) 141 [.str (tx t)] = some (.ex 6) := by
  have h1 := zaA (n + 4) ht
  have hr := Qh (zt 10 t) (zt 10 t).length
  generalize zC (zt 10 t) (zt 10 t).length = g at *
  have h2 := zhx (n + 2) hr
  have hi : zb (.inst .str) [.str (tx t)] = some (.val (.bl true)) := rfl
  rw [Xt gW rfl rfl]
  simp -implicitDefEqProofs only [vT]
  by_cases hb : jI g = true
  · have ok := (zhy hr).mp hb
    have h3 := zap n ok
    have ne : ¬ tx (zP g (zm g) (zi g)) = tx t := fun e => h g ⟨ok, (XC e).symm⟩
    rw [hb] at h2
    generalize zP g (zm g) (zi g) = u at *
    simp -implicitDefEqProofs [h1, h2, h3, hi, Qf, ne]
  · have hb : jI g = false := by simpa using hb
    rw [hb] at h2
    simp -implicitDefEqProofs [h1, h2, hi]
theorem zhB (n : Nat) {d : D} (h : zb (.inst .str) [d] = some (.val (.bl false))) : zn U zp (n + 1) 141 [d] = some (.ex 6) := by
  rw [Xt gW rfl rfl]
  simp -implicitDefEqProofs only [vT]
  simp -implicitDefEqProofs [h]
theorem zaB (n : Nat) {d : D} (h : zn U zp n 141 [d] = some (.ex 6)) : zQ U zp (n + 1) 143 [d] = some (.val (.bl true)) := by
  refine gT ?_
  rw [Xt zgU rfl rfl]
  simp -implicitDefEqProofs [jH, h]
  rfl
theorem zaC (n : Nat) {d : D} (h : zn U zp n 141 [d] = some (.ex 6)) : zQ U zp (n + 1) 142 [d] = some (.val (.bl true)) := by
  refine gT ?_
  rw [Xt zgT rfl rfl]
  simp -implicitDefEqProofs [jG, h]
  rfl
end LK
namespace LK
open L2.LW
noncomputable def RD (R : List (List Nat)) : D := .lst ((R.map tx).map D.str)
theorem Qm {R : List (List Nat)} {k : Nat} (h : k < R.length) : zb .idx [RD R, .int (k : Int)] = some (.val (.str (tx (R.getD k [])))) := by
  unfold RD
  rw [JM, atI_nat (by simpa using h)]
  rw [List.getElem_map, List.getElem_map, List.getD_eq_getElem?_getD, List.getElem?_eq_getElem h]; rfl
theorem zaD {R : List (List Nat)} {j : Nat} (h : j < R.length) : zb .idx [RD R, .int (-((j : Int) + 1))] = some (.val (.str (tx (R.getD (R.length - 1 - j) [])))) := by
  unfold RD
  rw [JM]
  unfold atI ixN
  rw [if_neg (by omega), if_pos (by simp; omega)]
  simp only [Option.bind_some]
  rw [show (-((j : Int) + 1) + (((R.map tx).map D.str).length : Int)).toNat = R.length - 1 - j by simp; omega]
  rw [List.getElem?_map, List.getElem?_map, List.getD_eq_getElem?_getD, List.getElem?_eq_getElem (by omega : R.length - 1 - j < R.length)]
  rfl
theorem XI {p : List Nat} (h : p.length ≤ 1000) : zb .lenS [.str (tx p)] = some (.val (.int (p.length : Int))) := by
  show Zi [.str (tx p)] = _
  unfold Zi
  simp only
  rw [if_pos (by rw [xo]; omega), xo]; rfl
theorem zaE : (PySem.Str.ofString ".#") = tx [46, 35] := by decide +kernel
theorem vf (p : List Nat) : (tx p).cps.toList = p := by simp [tx]
theorem zaF {a : Nat} {q : List Nat} : zb .ninS [.str (tx [a]), .str (tx q)] = some (.val (.bl (!decide (a ∈ q)))) := by
  show jm [.str (tx [a]), .str (tx q)] = _
  unfold jm
  simp only [vf]
  rfl
theorem zhC (p : List Nat) : xh (tx p) = p.map fun a => D.str (tx [a]) := by
  unfold xh
  rw [vf]; rfl
theorem XJ {p : List Nat} {k : Nat} (h : k < p.length) (hp : p.length ≤ 1000) : zb .idxS [.str (tx p), .int (k : Int)] = some (.val (.str (tx [p.getD k 0]))) := by
  show Ze [.str (tx p), .int (k : Int)] = _
  unfold Ze
  simp only
  rw [if_pos ⟨by omega, by rw [xo]; omega⟩, Int.toNat_natCast]
  have e : (tx p).cps[k]? = some (p.getD k 0) := by
    rw [← Array.getElem?_toList, vf, List.getD_eq_getElem?_getD, List.getElem?_eq_getElem h]; rfl
  rw [e]; rfl
noncomputable def vV (R : List (List Nat)) (r : Nat) : Prop := (R.getD r []).length = (R.getD 0 []).length ∧ ∀ a ∈ R.getD r [], a = 46 ∨ a = 35
noncomputable def yF (t : List Nat) (R : List (List Nat)) (s2 s3 : Option SV) : Env := [some (.val (.str (tx t))), some (.obj true (RD R)), s2, s3]
theorem zhD (n : Nat) {t : List Nat} {R : List (List Nat)} {r : Nat} {acc : List za} (hr : r < R.length) (h0 : 0 < R.length) (hl : ∀ k, (R.getD k []).length ≤ 1000) (ha : acc.length ≤ 2000) :
    (vV R r ∧ zv (zn U zp n) zp vS (yF t R (some (.obj true (lD acc))) (some (.val (.int (r : Int))))) = some (.nx, yF t R (some (.obj true (lD (acc ++ yU r (R.getD r []))))) (some (.val (.int (r : Int)))))) ∨
    (¬ vV R r ∧ zv (zn U zp n) zp vS (yF t R (some (.obj true (lD acc))) (some (.val (.int (r : Int))))) = some (.rt (.val .non), yF t R (some (.obj true (lD acc))) (some (.val (.int (r : Int)))))) := by
  have hl' := xn
  have i1 := Qm hr
  have i0 := Qm h0
  have l1 := hl r
  have l0 := hl 0
  have n1 := XI l1
  have n0 := XI l0
  unfold vV
  have i0 : zb .idx [RD R, .int 0] = some (.val (.str (tx (R.getD 0 [])))) := i0
  have rl := zax r (R.getD r [])
  generalize R.getD 0 [] = p0 at *
  generalize R.getD r [] = p at *
  have cp : ∀ ρ : Env, ρ[1]? = some (some (.obj true (RD R))) → ρ[3]? = some (some (.val (.int (r : Int)))) → zf (zQ U zp n) (.comp false (.cons (.prim .idx (.cons (.var 1) (.cons (.var 3) .nil))) (.cons .non (.cons .non .nil))) (.prim .ninS (.cons (.var 0) (.cons (.str (PySem.Str.ofString ".#")) .nil))) (.var 0)) ρ = some (.obj true (.lst ((p.filter fun a => !decide (a ∈ [46, 35])).map fun a => D.str (tx [a])))) := by
    intro ρ h1 h3
    rw [JN (rs := [.val (.str (tx p)), .val .non, .val .non]) (xs := p) (f := fun a => D.str (tx [a])) (fun a => !decide (a ∈ [46, 35])) fun a => D.str (tx [a])]
    · simp [h1, h3, i1]
    · rw [← zhC]
      simp only [zU]
      rw [if_pos (by rw [xo]; omega)]
    · omega
    · intro a _
      simp [zaE, zaF]
    · intro a _ _; simp
  have cq : ∀ ρ : Env, ρ[1]? = some (some (.obj true (RD R))) → ρ[3]? = some (some (.val (.int (r : Int)))) → zf (zQ U zp n) (.comp true (.cons (.prim .lenS (.cons (.prim .idx (.cons (.var 1) (.cons (.var 3) .nil))) .nil)) .nil) (.prim .eqS (.cons (.prim .idxS (.cons (.prim .idx (.cons (.var 2) (.cons (.var 4) .nil))) (.cons (.var 0) .nil))) (.cons (.str (PySem.Str.ofString "#")) .nil))) (.tup (.cons (.var 4) (.cons (.var 0) .nil)))) ρ = some (.obj true (lD (yU r p))) := by
    intro ρ h1 h3
    rw [JN (rs := [.val (.int (p.length : Int))]) (xs := List.range p.length) (f := fun (k : Nat) => D.int (0 + (k : Int))) (fun k => decide (p.getD k 0 = 35)) fun k => cD ((r : Int), (k : Int))]
    · unfold lD yU
      rw [List.map_map]; rfl
    · simp [h1, h3, i1, n1]
    · rw [vx (by unfold xt; omega), Int.toNat_natCast]
    · simp; omega
    · intro k hk
      have ix := XJ (p := p) (List.mem_range.mp hk) l1
      have ek := Qk (a := p.getD k 0)
      generalize p.getD k 0 = a at *
      simp [h1, h3, i1, ix, wH, ek]
    · intro k hk _
      simp [h3, cD]
  by_cases hg : p.length = p0.length
  · have ne : ((p.length : Int) != (p0.length : Int)) = false := by rw [hg]; simp
    by_cases ha2 : ∀ a ∈ p, a = 46 ∨ a = 35
    · left
      refine ⟨⟨hg, ha2⟩, ?_⟩
      have f0 : (p.filter fun a => !decide (a ∈ [46, 35])) = [] := by
        rw [List.filter_eq_nil_iff]
        intro a h
        rcases ha2 a h with rfl | rfl <;> simp
      rw [f0] at cp
      have ad : zb .add [lD acc, lD (yU r p)] = some (.obj true (lD (acc ++ yU r p))) := by
        unfold lD
        rw [gL (by simp only [List.length_map]; omega)]; simp
      generalize yU r p = K at *
      simp -implicitDefEqProofs only [vS, yF]
      simp -implicitDefEqProofs [i0, i1, n0, n1, ne, gE, cp, cq, ad]
    · right
      refine ⟨fun z => ha2 z.2, ?_⟩
      have f1 : (p.filter fun a => !decide (a ∈ [46, 35])).isEmpty = false := by
        rw [Bool.eq_false_iff]
        intro z
        apply ha2
        intro a h
        rw [List.isEmpty_iff, List.filter_eq_nil_iff] at z
        have := z a h
        by_cases q : a = 46
        · exact .inl q
        · right
          by_cases q2 : a = 35
          · exact q2
          · exact absurd (by simp [q, q2]) this
      have f2 : ((p.filter fun a => !decide (a ∈ [46, 35])).map fun a => D.str (tx [a])).isEmpty = false := by
        rw [List.isEmpty_map]; exact f1
      generalize ((p.filter fun a => !decide (a ∈ [46, 35])).map fun a => D.str (tx [a])) = G at *
      simp -implicitDefEqProofs only [vS, yF]
      simp -implicitDefEqProofs [i0, i1, n0, n1, ne, gE, cp, f2]
  · right
    refine ⟨fun z => hg z.1, ?_⟩
    have ne : ((p.length : Int) != (p0.length : Int)) = true := by
      rw [bne_iff_ne]; omega
    simp -implicitDefEqProofs only [vS, yF]
    simp -implicitDefEqProofs [i0, i1, n0, n1, ne]
end LK
namespace LK
open L2.LW
section
variable {t : List Nat}
structure Dues (R : List (List Nat)) : Prop where
  last : R.getD (R.length - 1) [] = []
  two : 2 ≤ R.length
  nine : R.length ≤ 9
  wide : (R.getD 0 []).length ≤ 8
  rows : ∀ r, r < R.length - 1 → vV R r
  some1 : 1 ≤ (zC R (R.length - 1)).length
  most : (zC R (R.length - 1)).length ≤ 24
  low : 35 ∈ R.getD (R.length - 2) []
  right : mx (·.2) (zC R (R.length - 1)) + 1 = ((R.getD 0 []).length : Int)
theorem zhE {R : List (List Nat)} {m r : Nat} (hr : r < m) (hg : vV R r) : zI (zC R m) (R.getD 0 []).length r = R.getD r [] := by
  obtain ⟨h1, h2⟩ := hg
  rw [← h1]
  generalize hp : R.getD r [] = p at *
  unfold zI
  apply List.ext_getElem?
  intro k
  rw [List.getElem?_map]
  by_cases h : k < p.length
  · rw [List.getElem?_range h, List.getElem?_eq_getElem h]
    show some (yd _ r k) = _
    congr 1
    have hm : (((r : Int), (k : Int)) ∈ zC R m) ↔ p.getD k 0 = 35 := by
      rw [XH]
      constructor
      · rintro ⟨r', c', _, _, e, z⟩
        injection z with z1 z2
        have : r = r' := by omega
        subst this
        have : k = c' := by omega
        subst this
        rw [hp] at e; exact e
      · intro e
        exact ⟨r, k, hr, by rw [hp]; exact h, by rw [hp]; exact e, rfl⟩
    have e0 : p.getD k 0 = p[k] := by rw [List.getD_eq_getElem?_getD, List.getElem?_eq_getElem h]; rfl
    rw [e0] at hm
    unfold yd
    by_cases q : p[k] = 35
    · rw [if_pos (hm.mpr q), q]
    · rw [if_neg fun z => q (hm.mp z)]
      rcases h2 p[k] (List.getElem_mem h) with z | z
      · exact z.symm
      · exact absurd z q
  · rw [List.getElem?_eq_none (by simp; omega), List.getElem?_eq_none (by omega)]; rfl
theorem zhF {R : List (List Nat)} (h : Dues R) : OkF (zC R (R.length - 1)) ∧ zm (zC R (R.length - 1)) = (R.getD 0 []).length ∧ zi (zC R (R.length - 1)) = R.length - 1 := by
  have h2 := h.two
  have h9 := h.nine
  have hw := h.wide
  have mem : ∀ x ∈ zC R (R.length - 1), ∃ r c : Nat, r < R.length - 1 ∧ c < (R.getD 0 []).length ∧ x = ((r : Int), (c : Int)) := fun x hx => by
    obtain ⟨r, c, hr, hc, _, e⟩ := XH.mp hx
    rw [(h.rows r hr).1] at hc
    exact ⟨r, c, hr, hc, e⟩
  have ok : OkF (zC R (R.length - 1)) := by
    refine ⟨fun z => ?_, h.most, fun x hx => ?_, Qh R _⟩
    · have := h.some1
      rw [z] at this; simp at this
    · obtain ⟨r, c, hr, hc, rfl⟩ := mem x hx
      unfold yu
      refine ⟨by show (0 : Int) ≤ (r : Int); omega, by show (r : Int) ≤ 7; omega, by show (0 : Int) ≤ (c : Int); omega, by show (c : Int) ≤ 7; omega⟩
  refine ⟨ok, ?_, ?_⟩
  · obtain ⟨_, _, w3, _⟩ := ve ok
    have := h.right
    omega
  · obtain ⟨_, _, w3, _⟩ := vB ok
    obtain ⟨m1, ⟨z, hz, ez⟩, _⟩ := vd (g := (·.1)) ok.ne
    have up : mx (·.1) (zC R (R.length - 1)) ≤ ((R.length - 2 : Nat) : Int) := by
      obtain ⟨r, c, hr, _, rfl⟩ := mem z hz
      rw [← ez]
      show (r : Int) ≤ _
      omega
    obtain ⟨k, hk, ek⟩ := List.getElem_of_mem h.low
    have lo : (((R.length - 2 : Nat) : Int), (k : Int)) ∈ zC R (R.length - 1) := XH.mpr ⟨R.length - 2, k, by omega, hk, by rw [List.getD_eq_getElem?_getD (l := R.getD (R.length - 2) []), List.getElem?_eq_getElem hk, ek]; rfl, rfl⟩
    have := m1 _ lo
    have this : ((R.length - 2 : Nat) : Int) ≤ mx (·.1) (zC R (R.length - 1)) := this
    omega
theorem zhG (h : Dues (zt 10 t)) : xH t (zC (zt 10 t) ((zt 10 t).length - 1)) := by
  obtain ⟨ok, hw, hh⟩ := zhF h
  refine ⟨ok, ?_⟩
  rw [hw, hh]
  have ej := zay 10 t
  have h2 := h.two
  generalize hR : zt 10 t = R at *
  have e : R = (List.range (R.length - 1)).map (fun r => R.getD r []) ++ [[]] := by
    apply List.ext_getElem?
    intro k
    by_cases hk : k < R.length - 1
    · rw [List.getElem?_append_left (by simpa using hk), List.getElem?_map, List.getElem?_range hk, List.getElem?_eq_getElem (by omega)]
      show _ = some (R.getD k [])
      rw [List.getD_eq_getElem?_getD, List.getElem?_eq_getElem (by omega)]; rfl
    · rw [List.getElem?_append_right (by simpa using hk)]
      simp only [List.length_map, List.length_range]
      by_cases hk2 : k = R.length - 1
      · rw [hk2, Nat.sub_self]
        have := h.last
        rw [List.getD_eq_getElem?_getD] at this
        rw [List.getElem?_eq_getElem (by omega)] at this ⊢
        simpa using this
      · rw [List.getElem?_eq_none (by omega), List.getElem?_eq_none (by simp; omega)]
  rw [← ej]
  conv => lhs; rw [e]
  rw [XG]
  unfold zP
  rw [List.flatMap_map]
  rw [List.flatMap_def, List.flatMap_def]
  congr 1
  apply List.map_congr_left
  intro r hr
  rw [zhE (List.mem_range.mp hr) (h.rows r (List.mem_range.mp hr))]
theorem Qn {f : List za} (ht : t.length ≤ 1000) (h : xH t f) : Dues (zt 10 t) ∧ zC (zt 10 t) ((zt 10 t).length - 1) = f := by
  have hc := zhz ht h
  obtain ⟨hf, rfl⟩ := h
  obtain ⟨w1, w2, w3, w4⟩ := ve hf
  obtain ⟨m1, m2, m3, m4⟩ := vB hf
  have hR : zt 10 (zP f (zm f) (zi f)) = (List.range (zi f)).map (zI f (zm f)) ++ [[]] := by
    have e : zP f (zm f) (zi f) = yn 10 ((List.range (zi f)).map (zI f (zm f)) ++ [[]]) := by
      rw [XG, List.flatMap_map]; rfl
    rw [e]
    refine Xk (by simp) fun p hp => ?_
    rw [List.mem_append, List.mem_map] at hp
    rcases hp with ⟨r, _, rfl⟩ | hp
    · unfold zI
      rw [List.mem_map]
      rintro ⟨c, _, h⟩
      unfold yd at h
      split at h <;> omega
    · simp at hp; subst hp; simp
  rw [hR] at hc ⊢
  have hl : ((List.range (zi f)).map (zI f (zm f)) ++ [[]]).length = zi f + 1 := by simp
  rw [hl] at hc ⊢
  have at_ : ∀ r, r < zi f → ((List.range (zi f)).map (zI f (zm f)) ++ [[]]).getD r [] = zI f (zm f) r := fun r hr => by
    rw [List.getD_eq_getElem?_getD, List.getElem?_append_left (by simpa using hr), List.getElem?_map, List.getElem?_range hr]; rfl
  have atl : ((List.range (zi f)).map (zI f (zm f)) ++ [[]]).getD (zi f) [] = [] := by
    rw [List.getD_eq_getElem?_getD, List.getElem?_append_right (by simp)]
    simp
  have ce : zC ((List.range (zi f)).map (zI f (zm f)) ++ [[]]) (zi f + 1 - 1) = f := by
    rw [ZS, atl] at hc
    have : yU (zi f) [] = [] := rfl
    rw [this, List.append_nil] at hc
    exact hc
  refine ⟨⟨?_, by omega, by omega, ?_, fun r hr => ?_, ?_, ?_, ?_, ?_⟩, ce⟩
  · rw [hl]; exact atl
  · rw [at_ 0 (by omega), vC]; exact w2
  · rw [hl] at hr
    refine ⟨by rw [at_ r (by omega), at_ 0 (by omega), vC, vC], fun a ha => ?_⟩
    rw [at_ r (by omega)] at ha
    unfold zI at ha
    obtain ⟨c, _, rfl⟩ := List.mem_map.mp ha
    unfold yd
    split
    · exact .inr rfl
    · exact .inl rfl
  · rw [hl, ce]
    exact List.length_pos_iff.mpr hf.ne
  · rw [hl, ce]; exact hf.len
  · rw [hl, show zi f + 1 - 2 = zi f - 1 by omega, at_ _ (by omega)]
    obtain ⟨_, ⟨z, hz, ez⟩, _⟩ := vd (g := (·.1)) hf.ne
    have zc := hf.cells z hz
    unfold yu at zc
    have z4 := w4 z hz
    unfold zI
    refine List.mem_map.mpr ⟨z.2.toNat, List.mem_range.mpr (by omega), ?_⟩
    unfold yd
    rw [if_pos]
    have : ((((zi f - 1 : Nat) : Int)), ((z.2.toNat : Nat) : Int)) = z := by
      apply Prod.ext
      · show ((zi f - 1 : Nat) : Int) = z.1
        have ez : z.1 = mx (·.1) f := ez
        omega
      · show ((z.2.toNat : Nat) : Int) = z.2
        omega
    rw [this]; exact hz
  · rw [hl, ce, at_ 0 (by omega), vC]; omega
end
end LK
namespace LK
open L2.LW
section
variable {t : List Nat}
theorem zhH (n : Nat) (ht : t.length ≤ 500) : (Dues (zt 10 t) ∧ zQ U zp (n + 1) 106 [.str (tx t)] = some (.val (fD (zC (zt 10 t) ((zt 10 t).length - 1))))) ∨ (¬ Dues (zt 10 t) ∧ zQ U zp (n + 1) 106 [.str (tx t)] = some (.val .non)) := by
  have hl' := xn
  obtain ⟨l1, l2, l3⟩ := ZT 10 t
  have hs : zb .splitN [.str (tx t)] = some (.obj true (RD (zt 10 t))) := by
    have : (tx t).length ≤ 10000000 := by rw [xo]; omega
    unfold RD
    rw [← Ql]
    simp only [zb, wP, if_pos this]
  rw [yK zgQ rfl]
  generalize hR : zt 10 t = R at *
  have h0 : 0 < R.length := List.length_pos_iff.mpr l3
  have hl : ∀ k, (R.getD k []).length ≤ 1000 := fun k => zaz (by omega)
  have im1 : zb .idx [RD R, .int (-1)] = some (.val (.str (tx (R.getD (R.length - 1) [])))) := by
    have := zaD (R := R) (j := 0) h0
    exact this
  have i0 : zb .idx [RD R, .int 0] = some (.val (.str (tx (R.getD 0 [])))) := Qm h0
  have lR : zb .len [RD R] = some (.val (.int (R.length : Int))) := by unfold RD; simp
  have n0 := XI (hl 0)
  have eL : ∀ q : List Nat, zb .neS [.str (tx q), .str (tx [])] = some (.val (.bl (!decide (q = [])))) := fun q => by
    rw [Qf]
    congr 4
    rw [Bool.eq_iff_iff, decide_eq_true_iff, decide_eq_true_iff]
    exact ⟨fun h => XC h, fun h => by rw [h]⟩
  by_cases c1 : R.getD (R.length - 1) [] = []
  case neg =>
    right
    refine ⟨fun z => c1 z.last, ?_⟩
    generalize R.getD (R.length - 1) [] = q at *
    have e1 := eL q
    rw [decide_eq_false c1] at e1
    simp -implicitDefEqProofs only [vw]
    simp -implicitDefEqProofs [hs, im1, wb, e1]
  have e1 := eL []
  by_cases c2 : 2 ≤ R.length ∧ R.length ≤ 9 ∧ (R.getD 0 []).length ≤ 8
  case neg =>
    right
    refine ⟨fun z => c2 ⟨z.two, z.nine, z.wide⟩, ?_⟩
    rw [c1] at im1
    generalize R.getD 0 [] = p0 at *
    simp -implicitDefEqProofs only [vw]
    by_cases d1 : (R.length : Int) < 2
    · simp -implicitDefEqProofs [hs, im1, wb, e1, lR, d1]
    · by_cases d2 : (9 : Int) < R.length
      · simp -implicitDefEqProofs [hs, im1, wb, e1, lR, d1, d2]
      · have d3 : (8 : Int) < (p0.length : Int) := by omega
        simp -implicitDefEqProofs [hs, im1, wb, e1, lR, d1, d2, i0, n0, d3]
  obtain ⟨c2, c3, c4⟩ := c2
  have im2 : zb .idx [RD R, .int (-2)] = some (.val (.str (tx (R.getD (R.length - 2) [])))) := by
    have := zaD (R := R) (j := 1) (by omega)
    rw [show R.length - 1 - 1 = R.length - 2 by omega] at this
    exact this
  have d1 : ¬ (R.length : Int) < 2 := by omega
  have d2 : ¬ (9 : Int) < R.length := by omega
  have d3 : ¬ (8 : Int) < ((R.getD 0 []).length : Int) := by omega
  have klen : ∀ k, (zC R k).length ≤ 2000 := fun k => by
    have := Qi R k
    have := Qj R k
    omega
  obtain ⟨fl, ρ', e, hq⟩ := zgJ (i := 3) (body := zv (zn U zp n) zp vS) (a := 0) (m := R.length - 1)
    (fun k ρ => ∃ s3, ρ = yF t R (some (.obj true (lD (zC R k)))) s3 ∧ (∀ r, r < k → vV R r) ∧ zK (some s3) = true)
    (fun r => r = .val .non ∧ ∃ k, k < R.length - 1 ∧ ¬ vV R k)
    (ρ := yF t R (some (.obj true (lD []))) none) ⟨none, rfl, fun r hr => by omega, rfl⟩
    fun k ρ hk zz => by
      obtain ⟨s3, eρ, hg, f3⟩ := zz
      subst eρ
      rw [Int.zero_add]
      rcases zhD n (t := t) (R := R) (r := k) (acc := zC R k) (by omega) h0 hl (klen k) with ⟨g, e⟩ | ⟨g, e⟩
      · refine ⟨_, _, e, .inl ⟨.inl rfl, some (.val (.int (k : Int))), by rw [ZS], fun r hr => ?_, yS⟩⟩
        by_cases z : r = k
        · rw [z]; exact g
        · exact hg r (by omega)
      · exact ⟨_, _, e, .inr ⟨_, rfl, rfl, k, hk, g⟩⟩
  have it : zU true [.val (.int ((R.length : Int) - 1))] = some ((List.range (R.length - 1)).map fun (k : Nat) => D.int (0 + (k : Int))) := by
    have := vx (a := (R.length : Int) - 1) (ZP (by omega) (by omega))
    rw [this, show ((R.length : Int) - 1).toNat = R.length - 1 by omega]
  simp only [Int.zero_add] at e it
  rcases hq with ⟨rfl, s3, rfl, hg, f3⟩ | ⟨r, rfl, rfl, k, hk, hng⟩
  case inr =>
    right
    refine ⟨fun z => hng (z.rows k hk), ?_⟩
    rw [c1] at im1
    simp -implicitDefEqProofs only [vw]
    generalize R.getD 0 [] = p0 at *
    generalize ((List.range (R.length - 1)).map fun (k : Nat) => D.int (k : Int)) = LS at *
    simp -implicitDefEqProofs [hs, im1, wb, e1, lR, d1, d2, i0, n0, d3, va, it]
    rw [show D.lst [] = lD [] from rfl, ← yF, e]
    simp -implicitDefEqProofs
  have cm : ∀ ρ : Env, ρ[2]? = some (some (.obj true (lD (zC R (R.length - 1))))) → zf (zQ U zp n) (.comp false (.cons (.var 2) .nil) (.bl true) (.prim .idx (.cons (.var 0) (.cons (.int 1) .nil)))) ρ = some (.obj true (.lst ((zC R (R.length - 1)).map fun c => .int c.2))) := by
    intro ρ h2
    rw [wG (rs := [.obj false (lD (zC R (R.length - 1)))]) (xs := zC R (R.length - 1)) (f := cD) (fun c => .int c.2)]
    · simp [h2]
    · rfl
    · have := klen (R.length - 1); omega
    · intro c _
      have i1 : zb .idx [cD c, .int 1] = some (.val (.int c.2)) := rfl
      simp [i1]
  have lc : zb .len [lD (zC R (R.length - 1))] = some (.val (.int ((zC R (R.length - 1)).length : Int))) := by simp [lD]
  have ns := zaF (a := 35) (q := R.getD (R.length - 2) [])
  have tt : zb .toTup [lD (zC R (R.length - 1))] = some (.val (fD (zC R (R.length - 1)))) := rfl
  have base : Dues R ↔ 1 ≤ (zC R (R.length - 1)).length ∧ (zC R (R.length - 1)).length ≤ 24 ∧ 35 ∈ R.getD (R.length - 2) [] ∧ mx (·.2) (zC R (R.length - 1)) + 1 = ((R.getD 0 []).length : Int) :=
    ⟨fun z => ⟨z.some1, z.most, z.low, z.right⟩, fun z => ⟨c1, c2, c3, c4, hg, z.1, z.2.1, z.2.2.1, z.2.2.2⟩⟩
  rw [base]
  rw [c1] at im1
  have mxv : zC R (R.length - 1) ≠ [] → zb .maxL [.lst ((zC R (R.length - 1)).map fun c => .int c.2)] = some (.val (.int (mx (·.2) (zC R (R.length - 1))))) := fun z => (vd (g := (·.2)) z).2.2
  simp -implicitDefEqProofs only [vw]
  generalize R.getD 0 [] = p0 at *
  generalize R.getD (R.length - 2) [] = lowR at *
  generalize ((List.range (R.length - 1)).map fun (k : Nat) => D.int (k : Int)) = LS at *
  generalize zC R (R.length - 1) = C at *
  generalize hmx : mx (·.2) C = mxC at *
  by_cases k1 : 1 ≤ (C.length : Int)
  · have cne : C ≠ [] := fun z => by rw [z] at k1; simp at k1
    have mxv := mxv cne
    generalize (C.map fun c => D.int c.2) = CM at *
    by_cases k2 : (C.length : Int) ≤ 24
    · by_cases k3 : 35 ∈ lowR
      · rw [decide_eq_true k3] at ns
        by_cases k4 : mxC + 1 = (p0.length : Int)
        · left
          refine ⟨⟨by omega, by omega, k3, k4⟩, ?_⟩
          have nb : (mxC + 1 != (p0.length : Int)) = false := by rw [k4]; simp
          simp -implicitDefEqProofs [hs, im1, wb, e1, lR, d1, d2, i0, n0, d3, va, it]
          rw [show D.lst [] = lD [] from rfl, ← yF, e]
          simp -implicitDefEqProofs [yF, lc, k1, k2, wH, im2, ns, cm, mxv, i0, n0, nb, tt]
        · right
          refine ⟨fun z => k4 z.2.2.2, ?_⟩
          have nb : (mxC + 1 != (p0.length : Int)) = true := by rw [bne_iff_ne]; exact k4
          simp -implicitDefEqProofs [hs, im1, wb, e1, lR, d1, d2, i0, n0, d3, va, it]
          rw [show D.lst [] = lD [] from rfl, ← yF, e]
          simp -implicitDefEqProofs [yF, lc, k1, k2, wH, im2, ns, cm, mxv, i0, n0, nb]
      · right
        rw [decide_eq_false k3] at ns
        refine ⟨fun z => k3 z.2.2.1, ?_⟩
        simp -implicitDefEqProofs [hs, im1, wb, e1, lR, d1, d2, i0, n0, d3, va, it]
        rw [show D.lst [] = lD [] from rfl, ← yF, e]
        simp -implicitDefEqProofs [yF, lc, k1, k2, wH, im2, ns]
    · right
      refine ⟨fun z => k2 (by omega), ?_⟩
      simp -implicitDefEqProofs [hs, im1, wb, e1, lR, d1, d2, i0, n0, d3, va, it]
      rw [show D.lst [] = lD [] from rfl, ← yF, e]
      simp -implicitDefEqProofs [yF, lc, k1, k2]
  · right
    refine ⟨fun z => k1 (by omega), ?_⟩
    simp -implicitDefEqProofs [hs, im1, wb, e1, lR, d1, d2, i0, n0, d3, va, it]
    rw [show D.lst [] = lD [] from rfl, ← yF, e]
    simp -implicitDefEqProofs [yF, lc, k1]
end
end LK
namespace LK
open L2.LW
theorem zaG {t : List Nat} {k : Nat} (h : t.length ≤ 1000) : zb .cutTS [.str (tx t), .int (k : Int)] = some (.val (.str (tx (t.take k)))) := by
  show vH [.str (tx t), .int (k : Int)] = _
  unfold vH
  simp only
  rw [if_pos ⟨by rw [xo]; omega, .inl (by omega)⟩, if_neg (by omega), vf, Int.toNat_natCast]; rfl
theorem zhI {t : List Nat} (h : t.length ≤ 1000) : zb .cutTS [.str (tx t), .int (-1)] = some (.val (.str (tx (t.take (t.length - 1))))) := by
  show vH [.str (tx t), .int (-1)] = _
  unfold vH
  simp only
  rw [if_pos ⟨by rw [xo]; omega, .inr trivial⟩, if_pos trivial, vf, xo]; rfl
theorem zaH {t : List Nat} {k : Nat} (h : t.length ≤ 1000) : zb .cutFS [.str (tx t), .int (k : Int)] = some (.val (.str (tx (t.drop k)))) := by
  show Zf [.str (tx t), .int (k : Int)] = _
  unfold Zf
  simp only
  rw [if_pos ⟨by rw [xo]; omega, by omega⟩, vf, Int.toNat_natCast]; rfl
theorem zaI {R : List (List Nat)} {k : Nat} : zb .cutTo [RD R, .int (k : Int)] = some (.obj true (RD (R.take k))) := by
  show jp [RD R, .int (k : Int)] = _
  unfold jp RD
  simp only
  rw [if_pos (by omega), Int.toNat_natCast, List.map_take, List.map_take]
theorem zaJ {R : List (List Nat)} {k : Nat} : zb .cutFL [RD R, .int (k : Int)] = some (.obj true (RD (R.drop k))) := by
  show Zg [RD R, .int (k : Int)] = _
  unfold Zg RD
  simp only
  rw [if_pos (by omega), Int.toNat_natCast, List.map_drop, List.map_drop]
theorem zhJ {R Q : List (List Nat)} (h : R.length + Q.length ≤ 1000) : zb .add [RD R, RD Q] = some (.obj true (RD (R ++ Q))) := by
  have hl' := xn
  unfold RD
  rw [gL (by simp only [List.length_map]; omega)]; simp
theorem glue_join : ∀ Q : List (List Nat), vn (Q.map tx) = yn 10 Q
  | [] => rfl
  | [p] => vf p
  | p :: q :: r => by
    have := glue_join (q :: r)
    show (tx p).cps.toList ++ 10 :: vn ((q :: r).map tx) = _
    rw [this, vf]; rfl
theorem zaK (c : Nat) : ∀ Q : List (List Nat), (yn c Q).length ≤ (Q.map List.length).sum + Q.length
  | [] => by simp [yn]
  | [p] => by simp [yn]
  | p :: q :: r => by
    have := zaK c (q :: r)
    show (p ++ c :: yn c (q :: r)).length ≤ _
    simp only [List.length_append, List.length_cons, List.map_cons, List.sum_cons] at *
    omega
theorem zhK {Q : List (List Nat)} (h : (Q.map List.length).sum + Q.length ≤ 1000) : zb .joinN [RD Q] = some (.val (.str (tx (yn 10 Q)))) := by
  show Zj [RD Q] = _
  unfold Zj RD
  simp only [JZ, Option.bind_some]
  have e : ((Q.map tx).map (·.length)) = Q.map List.length := by
    rw [List.map_map]
    apply List.map_congr_left
    intro p _
    exact xo p
  rw [if_pos (by rw [e, List.length_map]; omega), glue_join]; rfl
theorem zhL (ps : List (List Nat)) (m : Nat) : ((ps.drop m).map List.length).sum ≤ (ps.map List.length).sum := by
  have e : ps.map List.length = (ps.take m).map List.length ++ (ps.drop m).map List.length := by rw [← List.map_append, List.take_append_drop]
  rw [e, List.sum_append]; omega
theorem zaL (f : List za) (w m : Nat) : zP f w (m + 1) = zP f w m ++ (zI f w m ++ [10]) := by
  unfold zP
  rw [List.range_succ, List.flatMap_append]
  simp
theorem XM {f : List za} {t : List Nat} (h : xH t f) : ∃ X a, t = X ++ [a, 10] ∧ a ≠ 10 := by
  obtain ⟨hf, rfl⟩ := h
  obtain ⟨w1, _⟩ := ve hf
  obtain ⟨m1, _⟩ := vB hf
  obtain ⟨m, em⟩ : ∃ m, zi f = m + 1 := ⟨zi f - 1, by omega⟩
  obtain ⟨w, ew⟩ : ∃ w, zm f = w + 1 := ⟨zm f - 1, by omega⟩
  refine ⟨zP f (zm f) m ++ zI f w m, yd f m w, ?_, ?_⟩
  · rw [em, zaL]
    have : zI f (zm f) m = zI f w m ++ [yd f m w] := by
      rw [ew]; unfold zI; rw [List.range_succ, List.map_append]; rfl
    rw [this]; simp
  · unfold yd; split <;> omega
theorem zhM {f : List za} {t : List Nat} (h : xH t f) (g : List za) : ¬ xH (t.take (t.length - 1)) g := fun z => by
  obtain ⟨X, a, e, ha⟩ := XM h
  obtain ⟨Y, b, e2, hb⟩ := XM z
  have e1 : t.take (t.length - 1) = X ++ [a] := by
    rw [e, show X ++ [a, 10] = (X ++ [a]) ++ [10] by simp, List.take_append_of_le_length (by simp)]
    rw [List.take_of_length_le (by simp)]
  rw [e1] at e2
  have := congrArg List.reverse e2
  simp at this
  exact ha this.1
theorem zhN {f : List za} {t : List Nat} (h : xH t f) (g : List za) : ¬ xH (t ++ [10]) g := fun z => by
  obtain ⟨X, a, e, ha⟩ := XM h
  obtain ⟨Y, b, e2, hb⟩ := XM z
  rw [e] at e2
  have := congrArg List.reverse e2
  simp at this
  exact hb this.1.symm
theorem vW {t : List Nat} (ht : t.length ≤ 1000) (h : ¬ Dues (zt 10 t)) (g : List za) : ¬ xH t g := fun z => h (Qn ht z).1
theorem zhO : ¬ Dues (zt 10 []) := fun z => absurd z.two (by decide +kernel)
theorem zhP : ¬ Dues (zt 10 [10]) := fun z => absurd z.low (by decide +kernel)
theorem zhQ : ¬ Dues (zt 10 [46, 10]) := fun z => absurd z.low (by decide +kernel)
theorem zhR : ¬ Dues (zt 10 [35]) := fun z => absurd z.two (by decide +kernel)
theorem zhS : ¬ Dues (zt 10 [35, 46, 10]) := fun z => absurd z.right (by decide +kernel)
theorem zhT : ¬ Dues (zt 10 [35, 10, 46, 10]) := fun z => absurd z.low (by decide +kernel)
theorem zhU : ¬ Dues (zt 10 ((List.replicate 5 [35, 35, 35, 35, 35, 10]).flatten)) := fun z => absurd z.most (by decide +kernel)
theorem zhV : (PySem.Str.ofString ".\n") = tx [46, 10] := by decide +kernel
theorem zhW : (PySem.Str.ofString "#.\n") = tx [35, 46, 10] := by decide +kernel
theorem zhX : (PySem.Str.ofString "#\n.\n") = tx [35, 10, 46, 10] := by decide +kernel
theorem zhY : (PySem.Str.ofString "#####\n") = tx [35, 35, 35, 35, 35, 10] := by decide +kernel
theorem zhZ : (PySem.Str.ofString ".# \n*1") = tx [46, 35, 32, 10, 42, 49] := by decide +kernel
theorem zh0 : zb .mulS [.str (tx [35, 35, 35, 35, 35, 10]), .int 5] = some (.val (.str (tx ((List.replicate 5 [35, 35, 35, 35, 35, 10]).flatten)))) := by
  show Zh [.str (tx [35, 35, 35, 35, 35, 10]), .int 5] = _
  unfold Zh
  simp only
  rw [if_pos (by decide +kernel), vf]; rfl
noncomputable def zaM (way : Int) (d : D) : Prop := (∃ t', d = .str (tx t') ∧ t'.length ≤ 500 ∧ (way < 5 ∨ ∀ g, ¬ xH t' g)) ∨ zb (.inst .str) [d] = some (.val (.bl false))
theorem zh1 (n : Nat) (ns : List Int) {f : List za} {t : List Nat} (h : xH t f) : ∃ d, zaM (yi ns 0 % 6) d ∧ zQ U zp (n + 2) 107 [sD ns, .str (tx t)] = some (.val d) := by
  have hl' := xn
  have hne := zhM h
  have hnm := zhN h
  have hlen : 1 ≤ t.length ∧ t.length ≤ 72 := by
    obtain ⟨w1, w2, _⟩ := ve h.1
    obtain ⟨m1, m2, _⟩ := vB h.1
    rw [h.2, Qc]
    have h1 : zi f * (zm f + 1) ≤ 8 * 9 := Nat.mul_le_mul m2 (by omega)
    have h2 : 1 * 1 ≤ zi f * (zm f + 1) := Nat.mul_le_mul m1 (by omega)
    omega
  have dz := (Qn (by omega) h).1.two
  obtain ⟨l1, l2, l3⟩ := ZT 10 t
  have hs : zb .splitN [.str (tx t)] = some (.obj true (RD (zt 10 t))) := by
    have : (tx t).length ≤ 10000000 := by rw [xo]; omega
    unfold RD
    rw [← Ql]
    simp only [zb, wP, if_pos this]
  generalize hR : zt 10 t = R at *
  have lR : zb .len [RD R] = some (.val (.int (R.length : Int))) := by unfold RD; simp
  have lT := XI (p := t) (by omega)
  have c0 := vy n ns (k := 0) (by decide)
  have c1 := vy n ns (k := 1) (by decide)
  have c2 := vy n ns (k := 2) (by decide)
  have pm1 := vc (a := yi ns 1) (b := (t.length : Int)) (by omega)
  have pm2 := vc (a := yi ns 1) (b := (R.length : Int) - 1) (by omega)
  have pm3 := vc (a := yi ns 0) (b := 6) (by decide)
  have pm4 := vc (a := yi ns 1) (b := 12) (by decide)
  have pm5 := vc (a := yi ns 2) (b := 6) (by decide)
  obtain ⟨at_, ea, la⟩ : ∃ k : Nat, yi ns 1 % (t.length : Int) = (k : Int) ∧ k < t.length := by
    have := Int.emod_nonneg (yi ns 1) (b := (t.length : Int)) (by omega)
    have := Int.emod_lt_of_pos (yi ns 1) (b := (t.length : Int)) (by omega)
    exact ⟨(yi ns 1 % (t.length : Int)).toNat, by omega, by omega⟩
  obtain ⟨sp, es, ls⟩ : ∃ k : Nat, yi ns 1 % ((R.length : Int) - 1) = (k : Int) ∧ k < R.length := by
    have := Int.emod_nonneg (yi ns 1) (b := (R.length : Int) - 1) (by omega)
    have := Int.emod_lt_of_pos (yi ns 1) (b := (R.length : Int) - 1) (by omega)
    exact ⟨(yi ns 1 % ((R.length : Int) - 1)).toNat, by omega, by omega⟩
  obtain ⟨wy, ew, lw⟩ : ∃ k : Nat, yi ns 0 % 6 = (k : Int) ∧ k < 6 := ⟨(yi ns 0 % 6).toNat, by omega, by omega⟩
  obtain ⟨tw, et, lt⟩ : ∃ k : Nat, yi ns 1 % 12 = (k : Int) ∧ k < 12 := ⟨(yi ns 1 % 12).toNat, by omega, by omega⟩
  obtain ⟨si, ei, li⟩ : ∃ k : Nat, yi ns 2 % 6 = (k : Int) ∧ k < 6 := ⟨(yi ns 2 % 6).toNat, by omega, by omega⟩
  rw [ea] at pm1
  rw [es] at pm2
  rw [ew] at pm3 ⊢
  rw [et] at pm4
  rw [ei] at pm5
  have n1 : (at_ : Int) + 1 = ((at_ + 1 : Nat) : Int) := by omega
  have n2 : (sp : Int) + 1 = ((sp + 1 : Nat) : Int) := by omega
  have ta := zaG (t := t) (k := at_) (by omega)
  have ta1 := zaG (t := t) (k := at_ + 1) (by omega)
  rw [← n1] at ta1
  have fa := zaH (t := t) (k := at_) (by omega)
  have fa1 := zaH (t := t) (k := at_ + 1) (by omega)
  rw [← n1] at fa1
  have ra := zaI (R := R) (k := sp)
  have ra1 := zaI (R := R) (k := sp + 1)
  rw [← n2] at ra1
  have rb := zaJ (R := R) (k := sp)
  have rb1 := zaJ (R := R) (k := sp + 1)
  rw [← n2] at rb1
  have t1 : ∀ k, (t.take k).length ≤ 72 := fun k => by rw [List.length_take]; omega
  have t2 : ∀ k, (t.drop k).length ≤ 72 := fun k => by rw [List.length_drop]; omega
  have r1 : ∀ k, (R.take k).length ≤ 73 ∧ ((R.take k).map List.length).sum ≤ 72 := fun k => ⟨by rw [List.length_take]; omega, Nat.le_trans (Qj R k) (by omega)⟩
  have r2 : ∀ k, (R.drop k).length ≤ 73 ∧ ((R.drop k).map List.length).sum ≤ 72 := fun k => ⟨by rw [List.length_drop]; omega, Nat.le_trans (zhL R k) (by omega)⟩
  have jn : ∀ A B : List (List Nat), A.length ≤ 73 ∧ (A.map List.length).sum ≤ 72 → B.length ≤ 73 ∧ (B.map List.length).sum ≤ 72 → zb .add [RD A, RD B] = some (.obj true (RD (A ++ B))) ∧ zb .joinN [RD (A ++ B)] = some (.val (.str (tx (yn 10 (A ++ B))))) ∧ (yn 10 (A ++ B)).length ≤ 500 := fun A B ha hb => by
    have s : ((A ++ B).map List.length).sum ≤ 144 := by rw [List.map_append, List.sum_append]; omega
    have l : (A ++ B).length ≤ 146 := by rw [List.length_append]; omega
    refine ⟨zhJ (by omega), zhK (by omega), ?_⟩
    have := zaK 10 (A ++ B)
    omega
  clear n1 n2
  rw [yK zgR rfl]
  simp -implicitDefEqProofs only [ZN]
  have wc : wy = 0 ∨ wy = 1 ∨ wy = 2 ∨ wy = 3 ∨ wy = 4 ∨ wy = 5 := by omega
  rcases wc with rfl | rfl | rfl | rfl | rfl | rfl
  · have ad := vA (a := t.take at_) (b := t.drop (at_ + 1)) (by have := t1 at_; have := t2 (at_ + 1); omega)
    refine ⟨_, .inl ⟨t.take at_ ++ t.drop (at_ + 1), rfl, by have := t1 at_; have := t2 (at_ + 1); simp only [List.length_append]; omega, .inl (by decide)⟩, ?_⟩
    generalize t.take at_ = A at *
    generalize t.drop (at_ + 1) = B at *
    simp -implicitDefEqProofs [c0, c1, lT, pm1, hs, lR, pm2, pm3, ta, fa1, ad]
  · have ad := vA (a := t.take (at_ + 1)) (b := t.drop at_) (by have := t1 (at_ + 1); have := t2 at_; omega)
    refine ⟨_, .inl ⟨t.take (at_ + 1) ++ t.drop at_, rfl, by have := t1 (at_ + 1); have := t2 at_; simp only [List.length_append]; omega, .inl (by decide)⟩, ?_⟩
    generalize t.take (at_ + 1) = A at *
    generalize t.drop at_ = B at *
    simp -implicitDefEqProofs [c0, c1, lT, pm1, hs, lR, pm2, pm3, ta1, fa, ad]
  · have ix := XJ (p := [46, 35, 32, 10, 42, 49]) (k := si) li (by decide)
    generalize ([46, 35, 32, 10, 42, 49] : List Nat).getD si 0 = z at *
    have ad := vA (a := t.take at_) (b := [z]) (by have := t1 at_; simp only [List.length_singleton]; omega)
    have ad2 := vA (a := t.take at_ ++ [z]) (b := t.drop (at_ + 1)) (by have := t1 at_; have := t2 (at_ + 1); simp only [List.length_append, List.length_singleton]; omega)
    refine ⟨_, .inl ⟨t.take at_ ++ [z] ++ t.drop (at_ + 1), rfl, by have := t1 at_; have := t2 (at_ + 1); simp only [List.length_append, List.length_singleton]; omega, .inl (by decide)⟩, ?_⟩
    generalize t.take at_ = A at *
    generalize A ++ [z] = A2 at *
    generalize t.drop (at_ + 1) = B at *
    simp -implicitDefEqProofs [c0, c1, c2, lT, pm1, hs, lR, pm2, pm3, pm5, zhZ, ix, ta, fa1, ad, ad2]
  · obtain ⟨j1, j2, j3⟩ := jn _ _ (r1 sp) (r2 (sp + 1))
    refine ⟨_, .inl ⟨_, rfl, j3, .inl (by decide)⟩, ?_⟩
    generalize R.take sp = A at *
    generalize R.drop (sp + 1) = B at *
    generalize A ++ B = C at *
    simp -implicitDefEqProofs [c0, c1, lT, pm1, hs, lR, pm2, pm3, ra, rb1, j1, j2]
  · obtain ⟨j1, j2, j3⟩ := jn _ _ (r1 (sp + 1)) (r2 sp)
    refine ⟨_, .inl ⟨_, rfl, j3, .inl (by decide)⟩, ?_⟩
    generalize R.take (sp + 1) = A at *
    generalize R.drop sp = B at *
    generalize A ++ B = C at *
    simp -implicitDefEqProofs [c0, c1, lT, pm1, hs, lR, pm2, pm3, ra1, rb, j1, j2]
  · have cl := zhI (t := t) (by omega)
    have ad := vA (a := t) (b := [10]) (by simp only [List.length_singleton]; omega)
    have z1 := t1 (t.length - 1)
    have z2 : (t ++ [10]).length ≤ 500 := by simp only [List.length_append, List.length_singleton]; omega
    generalize t.take (t.length - 1) = A at *
    generalize t ++ [10] = B at *
    have z3 : ((List.replicate 5 [35, 35, 35, 35, 35, 10]).flatten : List Nat).length = 30 := by decide
    have z4 := zh0
    have z5 := vW (by omega) zhU
    generalize ((List.replicate 5 [35, 35, 35, 35, 35, 10]).flatten : List Nat) = C at *
    have key : ∀ L : List D, L = [.str (tx []), .str (tx [10]), .str (tx [46, 10]), .str (tx [35]), .str (tx [35, 46, 10]), .str (tx [35, 10, 46, 10]), .str (tx A), .str (tx B), .non, .int 7, .lst [.str (tx t)], .str (tx C)] → ∃ d, zaM (((5 : Nat) : Int)) d ∧ zb .idx [.lst L, .int (tw : Int)] = some (.val d) := by
      intro L eL
      have tc : tw = 0 ∨ tw = 1 ∨ tw = 2 ∨ tw = 3 ∨ tw = 4 ∨ tw = 5 ∨ tw = 6 ∨ tw = 7 ∨ tw = 8 ∨ tw = 9 ∨ tw = 10 ∨ tw = 11 := by omega
      subst eL
      rcases tc with rfl | rfl | rfl | rfl | rfl | rfl | rfl | rfl | rfl | rfl | rfl | rfl
      · exact ⟨_, .inl ⟨_, rfl, by decide, .inr (vW (by decide) zhO)⟩, rfl⟩
      · exact ⟨_, .inl ⟨_, rfl, by decide, .inr (vW (by decide) zhP)⟩, rfl⟩
      · exact ⟨_, .inl ⟨_, rfl, by decide, .inr (vW (by decide) zhQ)⟩, rfl⟩
      · exact ⟨_, .inl ⟨_, rfl, by decide, .inr (vW (by decide) zhR)⟩, rfl⟩
      · exact ⟨_, .inl ⟨_, rfl, by decide, .inr (vW (by decide) zhS)⟩, rfl⟩
      · exact ⟨_, .inl ⟨_, rfl, by decide, .inr (vW (by decide) zhT)⟩, rfl⟩
      · exact ⟨_, .inl ⟨A, rfl, by omega, .inr hne⟩, rfl⟩
      · exact ⟨_, .inl ⟨B, rfl, z2, .inr hnm⟩, rfl⟩
      · exact ⟨_, .inr rfl, rfl⟩
      · exact ⟨_, .inr rfl, rfl⟩
      · exact ⟨_, .inr rfl, rfl⟩
      · exact ⟨_, .inl ⟨C, rfl, by omega, .inr z5⟩, rfl⟩
    obtain ⟨d, hd, ed⟩ := key _ rfl
    refine ⟨d, hd, ?_⟩
    simp -implicitDefEqProofs [c0, c1, lT, pm1, hs, lR, pm2, pm3, pm4, wb, JY, zhV, wH, zhW, zhX, zhY, cl, ad, z4, ed]
end LK
namespace LK
open L2.LW
noncomputable def wI (ns : List Int) (f : List za) (t : List Nat) (s3 s4 : Option SV) : Env := [some (.val (sD ns)), some (.val (fD f)), some (.val (.str (tx t))), s3, s4, none, none]
theorem zh2 (n : Nat) (ns : List Int) {f : List za} (hf : OkF f) {t : List Nat} {r : Nat} {s4 : Option SV} (ht : t.length ≤ 500) (h4 : zK (some s4) = true) :
    ∃ s4', zv (zn U zp n) zp Xv (wI ns f t (some (.val (.int (r : Int)))) s4) = some (.nx, wI ns f (t ++ (zI f (zm f) r ++ [10])) (some (.val (.int (r : Int)))) s4') ∧ zK (some s4') = true := by
  have hl' := xn
  have hlen := hf.len
  obtain ⟨_, _, mc⟩ := vd (g := (·.2)) hf.ne
  obtain ⟨w1, w2, w3, _⟩ := ve hf
  refine ⟨some (.val (.int (zm f : Int))), ?_, yS⟩
  have cm : ∀ ρ : Env, ρ[1]? = some (some (.val (fD f))) → zf (zQ U zp n) (.comp false (.cons (.var 1) .nil) (.bl true) (.prim .idx (.cons (.var 0) (.cons (.int 1) .nil)))) ρ = some (.obj true (.lst (f.map fun c => .int c.2))) := by
    intro ρ h1
    rw [wG (rs := [.val (fD f)]) (xs := f) (f := cD) (fun c => .int c.2)]
    · simp [h1]
    · rfl
    · omega
    · intro c _
      have i1 : zb .idx [cD c, .int 1] = some (.val (.int c.2)) := rfl
      simp [i1]
  have cs : ∀ ρ : Env, ρ[1]? = some (some (.val (fD f))) → ρ[3]? = some (some (.val (.int (r : Int)))) → ρ[4]? = some (some (.val (.int (zm f : Int)))) → zf (zQ U zp n) (.comp true (.cons (.var 4) .nil) (.bl true) (.prim .idxS (.cons (.str (PySem.Str.ofString ".#")) (.cons (.prim .intOf (.cons (.prim .inn (.cons (.tup (.cons (.var 4) (.cons (.var 0) .nil))) (.cons (.var 2) .nil))) .nil)) .nil)))) ρ = some (.obj true (.lst ((List.range (zm f)).map fun k => .str (tx ([yd f r k] : List Nat))))) := by
    intro ρ h1 h3 h4
    rw [wG (rs := [.val (.int (zm f : Int))]) (xs := List.range (zm f)) (f := fun (k : Nat) => D.int (0 + (k : Int))) (fun k => .str (tx [yd f r k]))]
    · simp [h4]
    · rw [vx (by unfold xt; omega), Int.toNat_natCast]
    · simp; omega
    · intro k hk
      have pin := zaf (c := ((r : Int), (k : Int))) (f := f)
      rw [show cD ((r : Int), (k : Int)) = D.tup [.int (r : Int), .int (k : Int)] from rfl] at pin
      have ix : ∀ b : Bool, zb .idxS [.str (tx [46, 35]), .int (if b then 1 else 0)] = some (.val (.str (tx [if b then 35 else 46]))) := fun b => by
        cases b
        · exact XJ (p := [46, 35]) (k := 0) (by decide) (by decide)
        · exact XJ (p := [46, 35]) (k := 1) (by decide) (by decide)
      have ix := ix (decide (((r : Int), (k : Int)) ∈ f))
      have es : (if decide (((r : Int), (k : Int)) ∈ f) = true then 35 else 46) = yd f r k := by unfold yd; simp
      rw [es] at ix
      have io := zgE (b := decide (((r : Int), (k : Int)) ∈ f))
      generalize decide (((r : Int), (k : Int)) ∈ f) = b at *
      generalize yd f r k = z at *
      cases b <;> (simp at ix; simp -implicitDefEqProofs [h1, h3, pin, zaE, ix])
  have pj := Qa (xs := List.range (zm f)) (g := fun k => [yd f r k]) (by
    rw [List.map_map, XD (g := List.length ∘ fun k => [yd f r k]) (k := 1) fun x _ => rfl]
    simp; omega)
  rw [Qb] at pj
  have el : (List.range (zm f)).map (yd f r) = zI f (zm f) r := rfl
  rw [el] at pj
  have ll := vC f (zm f) r
  generalize zI f (zm f) r = Ln at *
  have ad := vA (a := t) (b := Ln) (by omega)
  have ad2 := vA (a := t ++ Ln) (b := [10]) (by simp only [List.length_append, List.length_singleton]; omega)
  rw [← List.append_assoc]
  generalize t ++ Ln = T1 at *
  generalize T1 ++ [10] = T2 at *
  generalize ((List.range (zm f)).map fun k => D.str (tx ([yd f r k] : List Nat))) = LS at *
  generalize (f.map fun c => D.int c.2) = FM at *
  rw [w3] at cs ⊢
  simp -implicitDefEqProofs only [Xv]
  simp -implicitDefEqProofs [wI, h4, cm, mc, cs, pj, ad, JY, ad2]
theorem zh3 {a b : List za} : zb .eq [fD a, fD b] = some (.val (.bl (decide (a = b)))) := by
  rw [fD, fD, gM (by simp [zE]) (by simp [zE])]
  simp [zT]
theorem zh4 (n : Nat) (ns : List Int) : zQ U zp (n + 8) 108 [sD ns] = some (.val (.bl true)) := by
  have hl' := xn
  obtain ⟨f, hf, _, e1⟩ := zha (n + 5) ns (at_ := 3) (most := 24) (by decide) (by decide) (by decide)
  have hlen := hf.len
  obtain ⟨_, _, mc⟩ := vd (g := (·.1)) hf.ne
  obtain ⟨w1, w2, w3, _⟩ := ve hf
  obtain ⟨m1, m2, m3, _⟩ := vB hf
  obtain ⟨ρ', e, s3', s4', rfl, q3, q4⟩ := JO (i := 3) (body := zv (zn U zp (n + 7)) zp Xv) (a := 0) (m := zi f)
    (ρ := wI ns f [] none none)
    (fun k ρ => ∃ s3' s4', ρ = wI ns f (zP f (zm f) k) s3' s4' ∧ zK (some s3') = true ∧ zK (some s4') = true)
    ⟨none, none, rfl, rfl, rfl⟩ (by
      rintro k ρ hk ⟨a3, a4, rfl, g3, g4⟩
      obtain ⟨b4, eb, h4⟩ := zh2 (n + 7) ns hf (t := zP f (zm f) k) (r := k) (s4 := a4) (by
        rw [Qc]
        have : k * (zm f + 1) ≤ 8 * 9 := Nat.mul_le_mul (by omega) (by omega)
        omega) g4
      refine ⟨.nx, _, ?_, .inl rfl, some (.val (.int (k : Int))), b4, rfl, yS, h4⟩
      rw [zaL, ← eb]
      simp -implicitDefEqProofs only [wI, List.set_cons_succ, List.set_cons_zero, Int.zero_add])
  have tz : xH (zP f (zm f) (zi f)) f := ⟨hf, rfl⟩
  obtain ⟨d, hd, eb⟩ := zh1 (n + 5) ns tz
  generalize zP f (zm f) (zi f) = t at *
  have c0 := vy (n + 6) ns (k := 0) (by decide)
  have cm : ∀ ρ : Env, ρ[1]? = some (some (.val (fD f))) → zf (zQ U zp (n + 7)) (.comp false (.cons (.var 1) .nil) (.bl true) (.prim .idx (.cons (.var 0) (.cons (.int 0) .nil)))) ρ = some (.obj true (.lst (f.map fun c => .int c.1))) := by
    intro ρ h1
    rw [wG (rs := [.val (fD f)]) (xs := f) (f := cD) (fun c => .int c.1)]
    · simp [h1]
    · rfl
    · omega
    · intro c _
      have i1 : zb .idx [cD c, .int 0] = some (.val (.int c.1)) := rfl
      simp [i1]
  have it : zU true [.val (.int (mx (·.1) f + 1))] = some ((List.range (zi f)).map fun (k : Nat) => D.int (0 + (k : Int))) := by
    rw [← m3, vx (by unfold xt; omega), Int.toNat_natCast]
  generalize ((List.range (zi f)).map fun (k : Nat) => D.int (0 + (k : Int))) = LS at *
  generalize (f.map fun c => D.int c.1) = FM at *
  rw [yK zgS rfl]
  simp -implicitDefEqProofs only [ZO]
  simp -implicitDefEqProofs [e1, va, cm, mc, it, wb]
  rw [← wI, e]
  rcases hd with ⟨t', rfl, ht, hw⟩ | hd
  · have hi : zb (.inst .str) [.str (tx t')] = some (.val (.bl true)) := rfl
    rcases zhH (n + 6) (t := t') ht with ⟨du, ed⟩ | ⟨du, ed⟩
    · have tx' := zhG du
      have rd := zhq (n + 1) tx'.1
      rw [← tx'.2] at rd
      have wl : yi ns 0 % 6 < 5 := by
        rcases hw with h | h
        · exact h
        · exact absurd tx' (h _)
      have pm := vc (a := yi ns 0) (b := 6) (by decide)
      have isn : zb .isN [fD (zC (zt 10 t') ((zt 10 t').length - 1))] = some (.val (.bl false)) := rfl
      have pq := zh3 (a := zC (zt 10 t') ((zt 10 t').length - 1)) (b := zC (zt 10 t') ((zt 10 t').length - 1))
      rw [decide_eq_true rfl] at pq
      generalize zC (zt 10 t') ((zt 10 t').length - 1) = G at *
      simp -implicitDefEqProofs [wI, eb, hi, ed, isn, c0, pm, wl, rd, pq]
    · have no : ∀ g, ¬ xH t' g := fun g z => du (Qn (by omega) z).1
      have rx := zhA n (by omega) no
      have a1 := zaB (n + 6) rx
      have a2 := zaC (n + 6) rx
      have isn : zb .isN [.non] = some (.val (.bl true)) := rfl
      simp -implicitDefEqProofs [wI, eb, hi, ed, isn, a1, a2]
  · have rx := zhB (n + 5) hd
    have a1 := zaB (n + 6) rx
    have a2 := zaC (n + 6) rx
    have isn : zb .isN [.non] = some (.val (.bl true)) := rfl
    simp -implicitDefEqProofs [wI, eb, hd, isn, a1, a2]
theorem zh5 (ns : List Int) (_ : ns.length ≤ 63) : zQ U zp depth 108 [.lst (ns.map D.int)] = some (.val (.bl true)) := zh4 32 ns
end LK
set_option maxHeartbeats 4000000
namespace LK
open PySem PySem.Spec PyProof.Rows L2 L2.LW
noncomputable def zF (i : Nat) : Stmt := PySem.Challenge.pw_leaperwalk_k19_spoilt_texts.main.body.getD i (.Pass ⟨0, 0, 0, 0⟩)
noncomputable def zZ : Nat → List Str
  | 0 => ["thing", "least", "most"]
  | 1 => ["thing"]
  | 2 => ["thing"]
  | 4 => ["cells"]
  | 5 => ["thing"]
  | 6 => ["floor"]
  | 13 => ["_law_script", "_law_k"]
  | 14 => ["_law_cell_here", "_law_prime", "_law_many"]
  | 15 => ["_law_script", "_law_at", "_law_most"]
  | 86 => ["floor", "row", "width"]
  | 87 => ["floor"]
  | 98 => ["text"]
  | 99 => ["text"]
  | 106 => ["_law_text"]
  | 107 => ["_law_script", "_law_text"]
  | 108 => ["_law_script"]
  | 141 => ["text"]
  | 142 => ["_law_text"]
  | 143 => ["_law_text"]
  | _ => []
noncomputable def vX : Nat → List Nat
  | _ => []
noncomputable abbrev fO (x : Str) (i : Nat) := PySem.W.fnOf x x (jj (zF i)) (xK (zF i)) (zy (zF i)) .none
structure nT (K : PySem.W.Frag) (mg : Str → Option Value) (F : Nat → Addr) (FD : Nat → FuncData) (k : Nat) (x : Str) (t : Nat) : Prop where
  m : mg x = some (.ref (F k))
  f : Fun K x x (zF t) (F k) (FD k)
  b : Binds K (FD k) (zZ k) []
structure fH (K : PySem.W.Frag) (f : Addr) (oc : Value) (od : Option Addr) (kV dc pm : Value) (an : Option Addr) (cd ct : Value) (sl : Array (Option Value)) (x : Str) (t : Nat) : Prop where
  a : PySem.W.nsIn K mainGlobals x = some (some (.ref f))
  l : K.lookup f = some ⟨oc, od, .func (fO x t kV dc pm an cd ct), sl⟩
  e : PySem.W.codeIn K cd x = true
  k : PySem.W.keepIn K (.ref f) = true
noncomputable def ZU (K : PySem.W.Frag) (a : Addr) : FuncData := match K.lookup a with
  | some ⟨_, _, .func fd, _⟩ => fd
  | _ => fO "" 0 .none .none .none none .none .none
theorem zaN {K : PySem.W.Frag} {f : Addr} {oc : Value} {od : Option Addr} {fd : FuncData} {sl : Array (Option Value)} (l : K.lookup f = some ⟨oc, od, .func fd, sl⟩) : ZU K f = fd := by unfold ZU; rw [l]
theorem yL {K : PySem.W.Frag} {mg : Str → Option Value} {F : Nat → Addr} {h : Heap} {f : Addr} {oc : Value} {od : Option Addr} {kV dc pm : Value} {an : Option Addr} {cd ct : Value} {sl : Array (Option Value)} {x : Str} {t k : Nat} (X : K.In h) (G : h.Ns mainGlobals mg) (z : fH K f oc od kV dc pm an cd ct sl x t)
    (hF : F k = f) (hb : ∀ (kV doc pm : Value) (an : Option Addr) (cdv ct : Value) (us : List Value), us.length = (zZ k).length → bindArgs (fO x t kV doc pm an cdv ct) ⟨us, []⟩ = pure ((zZ k).zip us)) : nT K mg F (fun i => ZU K (F i)) k x t := by
  subst hF
  have e := zdI (st := zF t) z.l z.e z.k
  have d := zaN z.l
  exact ⟨PySem.W.mg_of X G z.a, by rw [d]; exact e, by rw [d]; exact e.binds hb⟩
structure Txt (K : PySem.W.Frag) (mg : Str → Option Value) (F : Nat → Addr) (FD : Nat → FuncData) (TK : Nat → Tok) (CL : Nat → Addr) : Prop where
  y0 : mg "LeapError" = some (.ref (CL 0))
  y1 : mg "BadFloor" = some (.ref (CL 1))
  q1 : Zy K (CL 1)
  t1 : PySem.W.exmOne K (xf CL 1) (.ref (CL 0)) = some true
  v1 : PySem.W.kitOne K (xf CL 1) (.type "ValueError") = some true
  y6 : mg "BadText" = some (.ref (CL 6))
  q6 : Zy K (CL 6)
  t6 : PySem.W.exmOne K (xf CL 6) (.ref (CL 0)) = some true
  s6 : PySem.W.exmOne K (xf CL 6) (.ref (CL 6)) = some true
  v6 : PySem.W.kitOne K (xf CL 6) (.type "ValueError") = some true
  n0 : nT K mg F FD 0 "is_whole" 7
  n1 : nT K mg F FD 1 "is_couple" 8
  n2 : nT K mg F FD 2 "is_cell" 9
  n4 : nT K mg F FD 4 "is_rising" 10
  n5 : nT K mg F FD 5 "is_floor" 11
  n6 : nT K mg F FD 6 "checked" 12
  n13 : nT K mg F FD 13 "_law_cell" 19
  n14 : nT K mg F FD 14 "_law_mix" 20
  n15 : nT K mg F FD 15 "_law_floor" 21
  n86 : nT K mg F FD 86 "shown_line" 14
  n87 : nT K mg F FD 87 "shown" 15
  n98 : nT K mg F FD 98 "cells_in" 16
  n99 : nT K mg F FD 99 "read" 17
  n106 : nT K mg F FD 106 "_law_due" 24
  n107 : nT K mg F FD 107 "_law_bad" 25
  n108 : nT K mg F FD 108 "law" 26
  n141 : nT K mg F FD 141 "read" 17
  n142 : nT K mg F FD 142 "_law_by_base" 23
  n143 : nT K mg F FD 143 "_law_refused" 22
  z_isinstance : mg "isinstance" = none
  z_str : mg "str" = none
  z_max : mg "max" = none
  z_range : mg "range" = none
  z_int : mg "int" = none
  z_len : mg "len" = none
  z_tuple : mg "tuple" = none
  z_all : mg "all" = none
  z_enumerate : mg "enumerate" = none
  z_bool : mg "bool" = none
  z_ValueError : mg "ValueError" = none
  c0 : mg "LAST_LINE" = some (.int 7 (TK 0))
  c1 : mg "MOST_CELLS" = some (.int 24 (TK 1))
noncomputable abbrev xD (x : Str) : Prop := (x == ("__debug__" : Str)) = false
noncomputable abbrev xC (x : Str) : Prop := (x == ("__classdict__" : Str)) = false
noncomputable abbrev xN (x : Str) : Prop := x ≠ "__name__"
noncomputable abbrev xV (i : Nat) (x : Str) : Prop := xX (zy (zF i)) x
noncomputable abbrev xL (i : Nat) (x : Str) : Prop := wn (zy (zF i)) x
noncomputable abbrev xG (i : Nat) (x : Str) : Prop := (zy (zF i)).names.lookup x = some .globalImplicit
noncomputable def zaO (N P : List Str) (sc : Scope) : Bool := decide (sc.kind = .function) && !sc.isCoroutine && !sc.isGenerator && decide N.Nodup && decide (N.take P.length = P) && P.all (fun x => decide (sc.names.lookup x = some .local) || decide (sc.names.lookup x = some .cell)) && sc.names.all fun y => decide (y.2 ≠ .free)
theorem yM {N P : List Str} {sc : Scope} (h : zaO N P sc = true) : FnScope N P sc := by
  simp only [zaO, Bool.and_eq_true, decide_eq_true_eq, List.all_eq_true, Bool.or_eq_true, Bool.not_eq_true'] at h
  obtain ⟨⟨⟨⟨⟨⟨a, b⟩, c⟩, d⟩, e⟩, f⟩, g⟩ := h
  exact ⟨a, b, c, d, e, f, g⟩
noncomputable abbrev rO (F : Nat → Addr) (cdv : Value) (A : Around) (s : Shared) (n : Nat) (q : Str) (t i : Nat) : Prop := Room n (A.deeper (envOfC q (zy (zF t)) s.heap.objs.size (F i) cdv))
noncomputable abbrev bO (Pg : Program) (w : World) (K : PySem.W.Frag) (mg : Str → Option Value) (base : Heap) (F : Nat → Addr) (cdv : Value) (A : Around) (outer : List PySem.Env) (s : Shared) (H : Hp) (E : XK) (fuel n : Nat) (N : List Str) (q : Str) (t i : Nat) (ir : Ss) : Prop := ISs (xg yv Pg w K mg base N q (zy (zF t)) (F i) cdv A outer s H E).nox (zv (zn U fuel n) fuel ir) (xK (zF t))
theorem ZV : xD "_law_bad_here" := by decide +kernel
theorem ZW : xC "_law_bad_here" := by decide +kernel
theorem Qo : xD "read" := by decide +kernel
theorem zaP : xD "_law_due_here" := by decide +kernel
theorem zaQ : xC "_law_due_here" := by decide +kernel
theorem xI : xD "_law_script" := by decide +kernel
theorem xJ : xC "_law_script" := by decide +kernel
theorem wJ : xD "_law_cell" := by decide +kernel
theorem zh6 : xD "_law_by_base" := by decide +kernel
theorem zh7 : xD "_law_refused" := by decide +kernel
theorem Qp : xD "str" := by decide +kernel
theorem Qq : xN "str" := by decide +kernel
theorem zh8 : xD "_law_due" := by decide +kernel
theorem xp : xD "_law_text" := by decide +kernel
theorem xq : xC "_law_text" := by decide +kernel
theorem zh9 : xD "_law_bad" := by decide +kernel
theorem Qr : xD "_law_floor_here" := by decide +kernel
theorem Qs : xC "_law_floor_here" := by decide +kernel
theorem vY : xD "_law_cell_here" := by decide +kernel
theorem vZ : xC "_law_cell_here" := by decide +kernel
theorem XN : xD "max" := by decide +kernel
theorem XO : xN "max" := by decide +kernel
theorem Qt : xD "_law_wide" := by decide +kernel
theorem Qu : xC "_law_wide" := by decide +kernel
theorem Qv : xD "_law_column" := by decide +kernel
theorem Qw : xC "_law_column" := by decide +kernel
theorem jJ : xD "_law_row" := by decide +kernel
theorem jK : xC "_law_row" := by decide +kernel
theorem zaR : xD "int" := by decide +kernel
theorem zaS : xN "int" := by decide +kernel
theorem zia : xD "_law_floor" := by decide +kernel
theorem xU : xD "floor" := by decide +kernel
theorem xW : xC "floor" := by decide +kernel
theorem zaT : xD "shown" := by decide +kernel
theorem ja : xD "text" := by decide +kernel
theorem jb : xC "text" := by decide +kernel
theorem Qx : xD "is_floor" := by decide +kernel
theorem zaU : xD "cells_in" := by decide +kernel
theorem zaV : xD "_law_k" := by decide +kernel
theorem zaW : xC "_law_k" := by decide +kernel
theorem xy : xD "len" := by decide +kernel
theorem xz : xN "len" := by decide +kernel
theorem XQ : xD "_law_cells" := by decide +kernel
theorem XR : xC "_law_cells" := by decide +kernel
theorem ZX : xD "tuple" := by decide +kernel
theorem ZY : xN "tuple" := by decide +kernel
theorem yN : xD "_law_rows" := by decide +kernel
theorem yO : xC "_law_rows" := by decide +kernel
theorem zaX : xD "_law_sign" := by decide +kernel
theorem zaY : xC "_law_sign" := by decide +kernel
theorem zib : xD "_law_some" := by decide +kernel
theorem zic : xC "_law_some" := by decide +kernel
theorem jc : xD "_law_way" := by decide +kernel
theorem jd : xC "_law_way" := by decide +kernel
theorem XS : xD "_law_spot" := by decide +kernel
theorem XT : xC "_law_spot" := by decide +kernel
theorem wK : xD "_law_at" := by decide +kernel
theorem wL : xC "_law_at" := by decide +kernel
theorem Qy : xD "_law_found" := by decide +kernel
theorem Qz : xC "_law_found" := by decide +kernel
theorem zid : xD "_law_most" := by decide +kernel
theorem zie : xC "_law_most" := by decide +kernel
theorem zaZ : xD "_law_right" := by decide +kernel
theorem za0 : xC "_law_right" := by decide +kernel
theorem za1 : xD "_law_down" := by decide +kernel
theorem za2 : xC "_law_down" := by decide +kernel
theorem zif : xD "_law_seed" := by decide +kernel
theorem zig : xC "_law_seed" := by decide +kernel
theorem jL : xD "_law_mix" := by decide +kernel
theorem XU : xD "_law_c" := by decide +kernel
theorem XV : xC "_law_c" := by decide +kernel
theorem XW : xD "_law_r" := by decide +kernel
theorem XX : xC "_law_r" := by decide +kernel
theorem za3 : xD "width" := by decide +kernel
theorem za4 : xC "width" := by decide +kernel
theorem QA : xD "row" := by decide +kernel
theorem QB : xC "row" := by decide +kernel
theorem zih : xD "shown_line" := by decide +kernel
theorem zii : xD "cell" := by decide +kernel
theorem zij : xC "cell" := by decide +kernel
theorem zik : xD "checked" := by decide +kernel
theorem we : xD "thing" := by decide +kernel
theorem wg : xC "thing" := by decide +kernel
theorem zil : xD "is_rising" := by decide +kernel
theorem zim : xD "part" := by decide +kernel
theorem zin : xC "part" := by decide +kernel
theorem zio : xD "is_cell" := by decide +kernel
theorem za5 : xD "all" := by decide +kernel
theorem za6 : xN "all" := by decide +kernel
theorem ziq : xD "MOST_CELLS" := by decide +kernel
theorem ZZ : xD "cells" := by decide +kernel
theorem Ya : xC "cells" := by decide +kernel
theorem zir : xD "line" := by decide +kernel
theorem zis : xC "line" := by decide +kernel
theorem zit : xD "sign" := by decide +kernel
theorem ziu : xC "sign" := by decide +kernel
theorem za7 : xD "column" := by decide +kernel
theorem za8 : xC "column" := by decide +kernel
theorem ziv : xD "_law_prime" := by decide +kernel
theorem ziw : xC "_law_prime" := by decide +kernel
theorem zix : xD "_law_many" := by decide +kernel
theorem ziy : xC "_law_many" := by decide +kernel
theorem za9 : xD "place" := by decide +kernel
theorem zba : xC "place" := by decide +kernel
theorem zbb : xD "LAST_LINE" := by decide +kernel
theorem zbc : xD "is_whole" := by decide +kernel
theorem ziz : xD "is_couple" := by decide +kernel
theorem ziA : xD "least" := by decide +kernel
theorem ziB : xC "least" := by decide +kernel
theorem ziC : xD "most" := by decide +kernel
theorem ziD : xC "most" := by decide +kernel
theorem ziE : xD "bool" := by decide +kernel
theorem ziF : xN "bool" := by decide +kernel
theorem ziG : xD "e" := by decide +kernel
theorem ziH : xC "e" := by decide +kernel
theorem ziI : xD "LeapError" := by decide +kernel
theorem QC : xD "BadText" := by decide +kernel
theorem ziJ : FnScope ["thing", "least", "most"] (zZ 0) (zy (zF 7)) := yM (by decide +kernel)
theorem ziK : xV 7 "least" := .inl (by decide +kernel)
theorem QD : xV 7 "thing" := .inl (by decide +kernel)
theorem ziL : xV 7 "most" := .inl (by decide +kernel)
theorem zbd : xG 7 "isinstance" := by decide +kernel
theorem ziM : xG 7 "int" := by decide +kernel
theorem ziN : xG 7 "bool" := by decide +kernel
theorem ziO : FnScope ["thing"] (zZ 1) (zy (zF 8)) := yM (by decide +kernel)
theorem zbe : xV 8 "thing" := .inl (by decide +kernel)
theorem ziP : xG 8 "len" := by decide +kernel
theorem ziQ : xG 8 "isinstance" := by decide +kernel
theorem ziR : xG 8 "tuple" := by decide +kernel
theorem ziS : FnScope ["thing"] (zZ 2) (zy (zF 9)) := yM (by decide +kernel)
theorem QE : xV 9 "thing" := .inl (by decide +kernel)
theorem zbf : xG 9 "LAST_LINE" := by decide +kernel
theorem zbg : xG 9 "is_whole" := by decide +kernel
theorem ziT : xG 9 "is_couple" := by decide +kernel
theorem ziU : FnScope ["cells"] (zZ 4) (zy (zF 10)) := yM (by decide +kernel)
theorem ziV : xV 10 "cells" := .inr (.inl (by decide +kernel))
theorem ziW : xG 10 "len" := by decide +kernel
theorem ziX : xG 10 "range" := by decide +kernel
theorem ziY : xG 10 "all" := by decide +kernel
theorem ziZ : FnScope ["thing"] (zZ 5) (zy (zF 11)) := yM (by decide +kernel)
theorem XY : xV 11 "thing" := .inl (by decide +kernel)
theorem zi0 : xG 11 "is_rising" := by decide +kernel
theorem zi1 : xG 11 "all" := by decide +kernel
theorem zi2 : xG 11 "len" := by decide +kernel
theorem zi3 : xG 11 "MOST_CELLS" := by decide +kernel
theorem zi4 : xG 11 "isinstance" := by decide +kernel
theorem zi5 : xG 11 "tuple" := by decide +kernel
theorem zi6 : FnScope ["floor"] (zZ 6) (zy (zF 12)) := yM (by decide +kernel)
theorem zbh : xV 12 "floor" := .inl (by decide +kernel)
theorem zi7 : xG 12 "is_floor" := by decide +kernel
theorem zi8 : FnScope ["_law_script", "_law_k"] (zZ 13) (zy (zF 19)) := yM (by decide +kernel)
theorem zbi : xV 19 "_law_k" := .inl (by decide +kernel)
theorem zbj : xV 19 "_law_script" := .inl (by decide +kernel)
theorem zi9 : xG 19 "len" := by decide +kernel
theorem zja : FnScope ["_law_cell_here", "_law_prime", "_law_many"] (zZ 14) (zy (zF 20)) := yM (by decide +kernel)
theorem zjb : xV 20 "_law_cell_here" := .inl (by decide +kernel)
theorem zjc : xV 20 "_law_prime" := .inl (by decide +kernel)
theorem zjd : xV 20 "_law_many" := .inl (by decide +kernel)
theorem wj : FnScope ["_law_script", "_law_at", "_law_most", "_law_cell_here", "_law_rows", "_law_wide", "_law_down", "_law_right", "_law_way", "_law_found", "_law_r", "_law_c", "_law_seed"] (zZ 15) (zy (zF 21)) := yM (by decide +kernel)
theorem QF : xV 21 "_law_found" := .inl (by decide +kernel)
theorem zje : xV 21 "_law_most" := .inl (by decide +kernel)
theorem zbk : xV 21 "_law_right" := .inl (by decide +kernel)
theorem zbl : xV 21 "_law_down" := .inl (by decide +kernel)
theorem zbm : xV 21 "_law_rows" := .inl (by decide +kernel)
theorem zbn : xV 21 "_law_wide" := .inl (by decide +kernel)
theorem zbo : xV 21 "_law_way" := .inl (by decide +kernel)
theorem zjf : xV 21 "_law_seed" := .inl (by decide +kernel)
theorem XZ : xV 21 "_law_c" := .inl (by decide +kernel)
theorem Va : xV 21 "_law_r" := .inl (by decide +kernel)
theorem Vb : xV 21 "_law_at" := .inl (by decide +kernel)
theorem Vc : xV 21 "_law_script" := .inl (by decide +kernel)
theorem QG : xV 21 "_law_cell_here" := .inl (by decide +kernel)
theorem zbp : xL 21 "_law_found" := .inl (by decide +kernel)
theorem zjg : xL 21 "_law_seed" := .inl (by decide +kernel)
theorem zjh : xL 21 "_law_c" := .inl (by decide +kernel)
theorem zji : xL 21 "_law_r" := .inl (by decide +kernel)
theorem zjj : xL 21 "_law_way" := .inl (by decide +kernel)
theorem zjk : xL 21 "_law_right" := .inl (by decide +kernel)
theorem zjl : xL 21 "_law_down" := .inl (by decide +kernel)
theorem zjm : xL 21 "_law_wide" := .inl (by decide +kernel)
theorem zjn : xL 21 "_law_rows" := .inl (by decide +kernel)
theorem zjo : xL 21 "_law_cell_here" := .inl (by decide +kernel)
theorem zjp : xG 21 "tuple" := by decide +kernel
theorem zbq : xG 21 "range" := by decide +kernel
theorem jM : xG 21 "_law_mix" := by decide +kernel
theorem Vd : xG 21 "_law_cell" := by decide +kernel
theorem zjq : FnScope ["floor", "row", "width"] (zZ 86) (zy (zF 14)) := yM (by decide +kernel)
theorem zjr : xV 14 "width" := .inl (by decide +kernel)
theorem zjs : xG 14 "range" := by decide +kernel
theorem zbr : FnScope ["floor", "width"] (zZ 87) (zy (zF 15)) := yM (by decide +kernel)
theorem QH : xV 15 "floor" := .inr (.inl (by decide +kernel))
theorem zjt : xL 15 "width" := .inr (by decide +kernel)
theorem zju : xG 15 "range" := by decide +kernel
theorem zjv : xG 15 "max" := by decide +kernel
theorem zjw : xG 15 "checked" := by decide +kernel
theorem Ve : FnScope ["text", "cells", "row", "line", "column", "sign"] (zZ 98) (zy (zF 16)) := yM (by decide +kernel)
theorem zbs : xV 16 "cells" := .inl (by decide +kernel)
theorem zjx : xV 16 "text" := .inl (by decide +kernel)
theorem zjy : xV 16 "line" := .inl (by decide +kernel)
theorem zjz : xV 16 "sign" := .inl (by decide +kernel)
theorem zjA : xV 16 "column" := .inl (by decide +kernel)
theorem zjB : xV 16 "row" := .inl (by decide +kernel)
theorem zjC : xL 16 "column" := .inl (by decide +kernel)
theorem zjD : xL 16 "sign" := .inl (by decide +kernel)
theorem zjE : xL 16 "row" := .inl (by decide +kernel)
theorem zjF : xL 16 "line" := .inl (by decide +kernel)
theorem zjG : xL 16 "cells" := .inl (by decide +kernel)
theorem zjH : xG 16 "tuple" := by decide +kernel
theorem zbt : xG 16 "enumerate" := by decide +kernel
theorem zbu : FnScope ["text", "floor"] (zZ 99) (zy (zF 17)) := yM (by decide +kernel)
theorem QI : xV 17 "floor" := .inl (by decide +kernel)
theorem QJ : xV 17 "text" := .inl (by decide +kernel)
theorem zjI : xL 17 "floor" := .inl (by decide +kernel)
theorem zjJ : xG 17 "shown" := by decide +kernel
theorem zjK : xG 17 "is_floor" := by decide +kernel
theorem zjL : xG 17 "cells_in" := by decide +kernel
theorem zjM : xG 17 "isinstance" := by decide +kernel
theorem zjN : xG 17 "str" := by decide +kernel
theorem Yb : FnScope ["_law_text", "_law_rows", "_law_cells", "_law_row"] (zZ 106) (zy (zF 24)) := yM (by decide +kernel)
theorem Vf : xV 24 "_law_cells" := .inl (by decide +kernel)
theorem wz : xV 24 "_law_rows" := .inr (.inl (by decide +kernel))
theorem QK : xV 24 "_law_row" := .inr (.inl (by decide +kernel))
theorem zjO : xV 24 "_law_text" := .inl (by decide +kernel)
theorem zbv : xL 24 "_law_cells" := .inl (by decide +kernel)
theorem zjP : xL 24 "_law_row" := .inr (by decide +kernel)
theorem zjQ : xL 24 "_law_rows" := .inr (by decide +kernel)
theorem zjR : xG 24 "tuple" := by decide +kernel
theorem zjS : xG 24 "max" := by decide +kernel
theorem vg : xG 24 "len" := by decide +kernel
theorem zbw : xG 24 "range" := by decide +kernel
theorem jN : FnScope ["_law_script", "_law_text", "_law_at", "_law_rows", "_law_spot", "_law_way", "_law_some"] (zZ 107) (zy (zF 25)) := yM (by decide +kernel)
theorem zjT : xV 25 "_law_some" := .inl (by decide +kernel)
theorem Yc : xV 25 "_law_script" := .inl (by decide +kernel)
theorem wA : xV 25 "_law_text" := .inl (by decide +kernel)
theorem Yd : xV 25 "_law_way" := .inl (by decide +kernel)
theorem Ye : xV 25 "_law_rows" := .inl (by decide +kernel)
theorem Vg : xV 25 "_law_spot" := .inl (by decide +kernel)
theorem jO : xV 25 "_law_at" := .inl (by decide +kernel)
theorem zjU : xL 25 "_law_some" := .inl (by decide +kernel)
theorem zjV : xL 25 "_law_way" := .inl (by decide +kernel)
theorem zjW : xL 25 "_law_spot" := .inl (by decide +kernel)
theorem zjX : xL 25 "_law_rows" := .inl (by decide +kernel)
theorem zjY : xL 25 "_law_at" := .inl (by decide +kernel)
theorem Yf : xG 25 "_law_cell" := by decide +kernel
theorem zbx : xG 25 "len" := by decide +kernel
theorem vh : FnScope ["_law_script", "_law_floor_here", "_law_text", "_law_row", "_law_wide", "_law_bad_here", "_law_due_here"] (zZ 108) (zy (zF 26)) := yM (by decide +kernel)
theorem Yg : xV 26 "_law_bad_here" := .inl (by decide +kernel)
theorem zby : xV 26 "_law_due_here" := .inl (by decide +kernel)
theorem QL : xV 26 "_law_script" := .inl (by decide +kernel)
theorem zbz : xV 26 "_law_text" := .inl (by decide +kernel)
theorem zbA : xV 26 "_law_floor_here" := .inr (.inl (by decide +kernel))
theorem zjZ : xV 26 "_law_wide" := .inl (by decide +kernel)
theorem zbB : xL 26 "_law_due_here" := .inl (by decide +kernel)
theorem zj0 : xL 26 "_law_bad_here" := .inl (by decide +kernel)
theorem zbC : xL 26 "_law_text" := .inl (by decide +kernel)
theorem zj1 : xL 26 "_law_wide" := .inl (by decide +kernel)
theorem zj2 : xL 26 "_law_row" := .inr (by decide +kernel)
theorem zj3 : xL 26 "_law_floor_here" := .inr (by decide +kernel)
theorem zj4 : xG 26 "read" := by decide +kernel
theorem zj5 : xG 26 "_law_cell" := by decide +kernel
theorem zj6 : xG 26 "_law_by_base" := by decide +kernel
theorem zj7 : xG 26 "_law_refused" := by decide +kernel
theorem zj8 : xG 26 "isinstance" := by decide +kernel
theorem zj9 : xG 26 "str" := by decide +kernel
theorem zka : xG 26 "_law_due" := by decide +kernel
theorem zkb : xG 26 "_law_bad" := by decide +kernel
theorem zbD : xG 26 "max" := by decide +kernel
theorem zbE : xG 26 "range" := by decide +kernel
theorem zkc : xG 26 "_law_floor" := by decide +kernel
theorem zbF : FnScope ["text", "floor"] (zZ 141) (zy (zF 17)) := yM (by decide +kernel)
theorem QM : xV 17 "text" := .inl (by decide +kernel)
theorem QN : xV 17 "floor" := .inl (by decide +kernel)
theorem zkd : xL 17 "floor" := .inl (by decide +kernel)
theorem zke : xG 17 "isinstance" := by decide +kernel
theorem zkf : xG 17 "str" := by decide +kernel
theorem zbG : xG 17 "BadText" := by decide +kernel
theorem zkg : xG 17 "cells_in" := by decide +kernel
theorem zkh : xG 17 "shown" := by decide +kernel
theorem zki : xG 17 "is_floor" := by decide +kernel
theorem zbH : FnScope ["_law_text", "e"] (zZ 142) (zy (zF 23)) := yM (by decide +kernel)
theorem zkj : xV 23 "_law_text" := .inl (by decide +kernel)
theorem zkk : xV 23 "e" := .inl (by decide +kernel)
theorem zkl : (zy (zF 23)).names.lookup ("e" : Str) = some .local := by decide +kernel
theorem zkm : xG 23 "read" := by decide +kernel
theorem zkn : xG 23 "isinstance" := by decide +kernel
theorem zko : xG 23 "ValueError" := by decide +kernel
theorem zkp : xG 23 "LeapError" := by decide +kernel
theorem zkq : FnScope ["_law_text"] (zZ 143) (zy (zF 22)) := yM (by decide +kernel)
theorem zkr : xV 22 "_law_text" := .inl (by decide +kernel)
theorem zks : xG 22 "read" := by decide +kernel
theorem zkt : xG 22 "BadText" := by decide +kernel
section
variable {Pg : Program} {w : World} {K : PySem.W.Frag} {mg : Str → Option Value} {base : Heap} {F : Nat → Addr} {FD : Nat → FuncData} {TK : Nat → Tok} {CL : Nat → Addr} {n fuel : Nat}
section
variable (T : Txt K mg F FD TK CL) (hall : ∀ i, FnOk Pg w K mg base yv n (F i) (FD i) (zZ i) (xa K (zn U fuel n) i (vX i))) (cdv : Value) (A : Around) (outer : List PySem.Env) (s : Shared) (H : Hp) (E : XK)
include T hall
theorem zku (hr : rO F cdv A s n "is_whole" 7 0) : bO Pg w K mg base F cdv A outer s H E fuel n ["thing", "least", "most"] "is_whole" 7 0 ZB :=
  (zk (yJ (IW.t (wt (wu (vP (t := .bool) zbd T.z_isinstance ziN T.z_bool PyProof.Rows.boot_bool (zd 0 rfl QD we wg) ziF ziE ze ze (zR ze zo)) (jz _ _) wV) (vp (wD (wu (vP (t := .int) zbd T.z_isinstance ziM T.z_int PyProof.Rows.boot_int (zd 0 rfl QD we wg) zaS zaR ze ze (zR ze zo)) (jz _ _) wV))))) (zk (yg YW)
    zw) zw)
    (zk (yg (zeZ jw jw (zd 1 rfl ziK ziA ziB) (zd 0 rfl QD we wg) (zd 2 rfl ziL ziC ziD)))
    zw))
theorem zkv (hr : rO F cdv A s n "is_couple" 8 1) : bO Pg w K mg base F cdv A outer s H E fuel n ["thing"] "is_couple" 8 1 ZC :=
  (zk (yg (jy (vP (t := .tuple) ziQ T.z_isinstance ziR T.z_tuple PyProof.Rows.boot_tuple (zd 0 rfl zbe we wg) ZY ZX ze ze (zR ze zo)) (Zu (Zs (vo hr.units) (yx wT ziP T.z_len PySem.boot_len (zg (zd 0 rfl zbe we wg) zl ze) xz xy ze zo) zj (yr _)))))
    zw)
theorem zkw (hr : rO F cdv A s n "is_cell" 9 2) : bO Pg w K mg base F cdv A outer s H E fuel n ["thing"] "is_cell" 9 2 jE :=
  (zk (yg (jy (zW (zV (hall 1) rfl) hr ziT T.n1.m T.n1.f.kp (T.n1.b) (zg (zd 0 rfl QE we wg) zl ze) ziz ze zo) (jy (zW (zV (hall 0) rfl) hr zbg T.n0.m T.n0.f.kp (T.n0.b) (zg (yt hr.units (zd 0 rfl QE we wg) zj (fun _ _ => rfl)) (zg zj (zg (VW zbf T.c0 zbb) zl ze) zB) yI) zbc yI (zR zB (zR ze zo))) (Zu (zW (zV (hall 0) rfl) hr zbg T.n0.m T.n0.f.kp (T.n0.b) (zg (yt hr.units (zd 0 rfl QE we wg) zj (fun _ _ => rfl)) (zg zj (zg (VW zbf T.c0 zbb) zl ze) zB) yI) zbc yI (zR zB (zR ze zo)))))))
    zw)
theorem zkx (hr : rO F cdv A s n "is_rising" 10 4) : bO Pg w K mg base F cdv A outer s H E fuel n ["cells"] "is_rising" 10 4 ZD :=
  (zk (yg (yx (qN rfl) ziY T.z_all (by decide +kernel) (zg (wv rfl (wx (sc := zy (zF 10)) (N := ["cells"]) rfl rfl (by decide +kernel)) (zfe ziX T.z_range (zg zj (zg (yx wT ziW T.z_len PySem.boot_len (zg (zd 0 rfl ziV ZZ Ya) zl ze) xz xy ze zo) zl wU) zB) zB wU) (.inl ⟨rfl, rfl⟩) (fun _ _ _ _ => (Zs (YV hr.units) (yt hr.units (zd 1 rfl (ww (by decide +kernel)) ZZ Ya) (zD ju (zd 0 rfl (xF (by decide +kernel)) za9 zba) zj) (fun _ _ => rfl)) (yt hr.units (zd 1 rfl (ww (by decide +kernel)) ZZ Ya) (zd 0 rfl (xF (by decide +kernel)) za9 zba) (fun _ _ => rfl)) (yr _)))) zl xw) za6 za5 xw zo))
    zw)
theorem zky (hr : rO F cdv A s n "is_floor" 11 5) : bO Pg w K mg base F cdv A outer s H E fuel n ["thing"] "is_floor" 11 5 vQ :=
  (zk (yJ (IW.t (wt (wD (wu (vP (t := .tuple) zi4 T.z_isinstance zi5 T.z_tuple PyProof.Rows.boot_tuple (zd 0 rfl XY we wg) ZY ZX ze ze (zR ze zo)) (jz _ _) wV)) (vp (wD (qy rfl rfl jw jw zj (yx wT zi2 T.z_len PySem.boot_len (zg (zd 0 rfl XY we wg) zl ze) xz xy ze zo) (VW zi3 T.c1 ziq)))))) (zk (yg YW)
    zw) zw)
    (zk (yg (jy (yx (qN rfl) zi1 T.z_all (by decide +kernel) (zg (wv rfl (wx (sc := zy (zF 11)) (N := ["thing"]) rfl rfl (by decide +kernel)) (Zv (zd 0 rfl XY we wg)) (.inl ⟨rfl, rfl⟩) (fun _ _ _ _ => (zW (zV (hall 2) rfl) hr (Jo (by decide +kernel)) T.n2.m T.n2.f.kp (T.n2.b) (zg (zd 0 rfl (xF (by decide +kernel)) zim zin) zl ze) zio ze zo))) zl xw) za6 za5 xw zo) (Zu (zW (zV (hall 4) rfl) hr zi0 T.n4.m T.n4.f.kp (T.n4.b) (zg (zd 0 rfl XY we wg) zl ze) zil ze zo))))
    zw))
theorem zkz (hr : rO F cdv A s n "checked" 12 6) : bO Pg w K mg base F cdv A outer s H E fuel n ["floor"] "checked" 12 6 ZE :=
  (zk (yJ (wD (wu (zW (zV (hall 5) rfl) hr zi7 T.n5.m T.n5.f.kp (T.n5.b) (zg (zd 0 rfl zbh xU xW) zl ze) Qx ze zo) (Ja _ _) wV)) (zk Jf
    zw) zw)
    (zk (Je 0 rfl zbh xU xW)
    zw))
theorem zkA (hr : rO F cdv A s n "_law_cell" 19 13) : bO Pg w K mg base F cdv A outer s H E fuel n ["_law_script", "_law_k"] "_law_cell" 19 13 ZF :=
  (zk (yJ (yy rfl (YV hr.units) (zd 1 rfl zbi zaV zaW) (yx wT zi9 T.z_len PySem.boot_len (zg (zd 0 rfl zbj xI xJ) zl ze) xz xy ze zo) (yr _)) (zk (yg (yt hr.units (zd 0 rfl zbj xI xJ) (zd 1 rfl zbi zaV zaW) (fun _ _ => rfl)))
    zw) zw)
    (zk (yg zj)
    zw))
theorem zkB (hr : rO F cdv A s n "_law_mix" 20 14) : bO Pg w K mg base F cdv A outer s H E fuel n ["_law_cell_here", "_law_prime", "_law_many"] "_law_mix" 20 14 ZG :=
  (zk (yg (zD wS (zD wS (zD jv (zd 0 rfl zjb vY vZ) zj) (zd 1 rfl zjc ziv ziw)) (zd 2 rfl zjd zix ziy)))
    zw)
theorem zkC (hr : rO F cdv A s n "_law_floor" 21 15) : bO Pg w K mg base F cdv A outer s H E fuel n ["_law_script", "_law_at", "_law_most", "_law_cell_here", "_law_rows", "_law_wide", "_law_down", "_law_right", "_law_way", "_law_found", "_law_r", "_law_c", "_law_seed"] "_law_floor" 21 15 ZI :=
  (zk (yf 3 wj.nd rfl zjo (zW (zV (hall 13) rfl) hr Vd T.n13.m T.n13.f.kp (T.n13.b) (zg (zd 0 rfl Vc xI xJ) (zg (zd 1 rfl Vb wK wL) zl ze) ze) wJ ze (zR ze zo)))
    (zk (yf 4 wj.nd rfl zjn (zD yk zj (zW (zV (hall 14) rfl) hr jM T.n14.m T.n14.f.kp (T.n14.b) (zg (zd 3 rfl QG vY vZ) (zg zj (zg zj zl zB) zB) ze) jL ze (zR zB (zR zB zo)))))
    (zk (yf 5 wj.nd rfl zjm (zD yk zj (zW (zV (hall 14) rfl) hr jM T.n14.m T.n14.f.kp (T.n14.b) (zg (zd 3 rfl QG vY vZ) (zg zj (zg zj zl zB) zB) ze) jL ze (zR zB (zR zB zo)))))
    (zk (yf 6 wj.nd rfl zjl (zW (zV (hall 14) rfl) hr jM T.n14.m T.n14.f.kp (T.n14.b) (zg (zW (zV (hall 13) rfl) hr Vd T.n13.m T.n13.f.kp (T.n13.b) (zg (zd 0 rfl Vc xI xJ) (zg (zD yk (zd 1 rfl Vb wK wL) zj) zl ym) ze) wJ ze (zR ym zo)) (zg zj (zg (zD ju zj (zd 4 rfl zbm yN yO)) zl ym) zB) wU) jL wU (zR zB (zR ym zo))))
    (zk (yf 7 wj.nd rfl zjk (zW (zV (hall 14) rfl) hr jM T.n14.m T.n14.f.kp (T.n14.b) (zg (zW (zV (hall 13) rfl) hr Vd T.n13.m T.n13.f.kp (T.n13.b) (zg (zd 0 rfl Vc xI xJ) (zg (zD yk (zd 1 rfl Vb wK wL) zj) zl ym) ze) wJ ze (zR ym zo)) (zg zj (zg (zD ju zj (zd 5 rfl zbn Qt Qu)) zl ym) zB) wU) jL wU (zR zB (zR ym zo))))
    (zk (yf 8 wj.nd rfl zjj (zW (zV (hall 14) rfl) hr jM T.n14.m T.n14.f.kp (T.n14.b) (zg (zD yk (zd 3 rfl QG vY vZ) zj) (zg zj (zg zj zl zB) zB) ym) jL ym (zR zB (zR zB zo))))
    (zk (yf 9 wj.nd rfl zbp (vM zl))
    (zk (Xe 10 PassesOwn.never rfl wj.nd rfl zji (vq zbq T.z_range (zg (zd 4 rfl zbm yN yO) zl ze) ze) (zk (Xe 11 PassesOwn.never rfl wj.nd rfl zjh (vq zbq T.z_range (zg (zd 5 rfl zbn Qt Qu) zl ze) ze) (zk (yf 12 wj.nd rfl zjg (zD yk (zD yk (zW (zV (hall 13) rfl) hr Vd T.n13.m T.n13.f.kp (T.n13.b) (zg (zd 0 rfl Vc xI xJ) (zg (zD yk (zD yk (zd 1 rfl Vb wK wL) zj) (zD wS (zD yk (zd 10 rfl Va XW XX) (zD jv zj (zd 11 rfl XZ XU XV))) zj)) zl ym) ze) wJ ze (zR ym zo)) (zD jv (zD jv zj (zd 10 rfl Va XW XX)) (zd 10 rfl Va XW XX))) (zD jv (zD jv zj (zd 11 rfl XZ XU XV)) (zd 11 rfl XZ XU XV))))
    (zk (yJ (IW.t (wt (yy rfl (vo hr.units) (zd 8 rfl zbo jc jd) zj (yr _)) (vp (yy rfl (VS hr.units) (zW (zV (hall 14) rfl) hr jM T.n14.m T.n14.f.kp (T.n14.b) (zg (zd 12 rfl zjf zif zig) (zg zj (zg (yt hr.units (vM (zg zj (zg zj (zg zj zl zB) zB) zB)) (zD ju (zd 8 rfl zbo jc jd) zj) (fun _ _ => rfl)) zl yI) zB) ze) jL ze (zR zB (zR yI zo))) zj (yr _))))) (zk (qD 9 rfl QF (jx (zg (zD yk (zd 6 rfl zbl za1 za2) (zd 10 rfl Va XW XX)) (zg (zD yk (zd 7 rfl zbk zaZ za0) (zd 11 rfl XZ XU XV)) zl ym) ym)) VV Qy Qz)
    zw) zw)
    zw)))
    zw))
    (zk (yJ (wD (wu (zd 9 rfl QF Qy Qz) (ze1 _) zeX)) (zk (yf 9 wj.nd rfl zbp (vM (zg (jx (zg (zd 6 rfl zbl za1 za2) (zg (zd 7 rfl zbk zaZ za0) zl ze) ze)) zl VV)))
    zw) zw)
    (zk (yg (YY VT zjp T.z_tuple PyProof.Rows.boot_tuple (zg (Jn (zd 9 rfl QF Qy Qz) (zd 2 rfl zje zid zie)) zl yI) ZY ZX yI zo))
    zw))))))))))
theorem zkD (hr : rO F cdv A s n "shown_line" 14 86) : bO Pg w K mg base F cdv A outer s H E fuel n ["floor", "row", "width"] "shown_line" 14 86 ZJ :=
  (zk (yg (zD vv (JA (wv rfl (wx (sc := zy (zF 14)) (N := ["floor", "row", "width"]) rfl rfl (by decide +kernel)) (vq zjs T.z_range (zg (zd 2 rfl zjr za3 za4) zl ze) ze) (.inl ⟨rfl, rfl⟩) (fun _ _ _ _ => (zeY (yy rfl (qq hr.units) (jx (zg (zd 2 rfl (ww (by decide +kernel)) QA QB) (zg (zd 0 rfl (xF (by decide +kernel)) za7 za8) zl ze) ze)) (zd 1 rfl (ww (by decide +kernel)) xU xW) (by with_unfolding_all rfl)) yC yC))) (by decide +kernel) xw) yC))
    zw)
theorem zkE (hr : rO F cdv A s n "shown" 15 87) : bO Pg w K mg base F cdv A outer s H E fuel n ["floor", "width"] "shown" 15 87 ZK :=
  (zk (zfa (zW (zV (hall 6) rfl) hr zjw T.n6.m T.n6.f.kp (T.n6.b) (zg (zd 0 rfl QH xU xW) zl ze) zik ze zo))
    (zk (yf 1 zbr.nd rfl zjt (zD yk (yx (Xh rfl) zjv T.z_max PyProof.Rows.boot_max (zg (wv rfl (wx (sc := zy (zF 15)) (N := ["floor", "width"]) rfl rfl (by decide +kernel)) (Zv (zd 0 rfl QH xU xW)) (.inl ⟨rfl, rfl⟩) (fun _ _ _ _ => (yt hr.units (zd 0 rfl (xF (by decide +kernel)) zii zij) zj (fun _ _ => rfl)))) zl xw) XO XN xw zo) zj))
    (zk (yg (JA (wv rfl (wx (sc := zy (zF 15)) (N := ["floor", "width"]) rfl rfl (by decide +kernel)) (vq zju T.z_range (zg (zD yk (yt hr.units (yt hr.units (zd 0 rfl QH xU xW) (YX YU zj) (fun _ _ => rfl)) zj (fun _ _ => rfl)) zj) zl ym) ym) (.inl ⟨rfl, rfl⟩) (fun _ _ _ _ => (zW (zV (hall 86) rfl) hr (Jo (by decide +kernel)) T.n86.m T.n86.f.kp (T.n86.b) (zg (zd 1 rfl (ww (by decide +kernel)) xU xW) (zg (zd 0 rfl (xF (by decide +kernel)) QA QB) (zg (zd 2 rfl (ww (by decide +kernel)) za3 za4) zl ze) ze) ze) zih ze (zR ze (zR ze zo))))) (by decide +kernel) xw))
    zw)))
theorem zkF (hr : rO F cdv A s n "cells_in" 16 98) : bO Pg w K mg base F cdv A outer s H E fuel n ["text", "cells", "row", "line", "column", "sign"] "cells_in" 16 98 jF :=
  (zk (yf 1 Ve.nd rfl zjG (vM zl))
    (zk (gr 2 3 PassesOwn.never rfl Ve.nd rfl zjE rfl zjF zbt T.z_enumerate (JB (zd 0 rfl zjx ja jb) (by decide +kernel)) wU (zk (gr 4 5 PassesOwn.never rfl Ve.nd rfl zjC rfl zjD zbt T.z_enumerate (zd 3 rfl zjy zir zis) ze (zk (yJ (yy rfl qR (zd 5 rfl zjz zit ziu) yC (yr _)) (zk (qD 1 rfl zbs (jx (zg (zd 2 rfl zjB QA QB) (zg (zd 4 rfl zjA za7 za8) zl ze) ze)) VV ZZ Ya)
    zw) zw)
    zw))
    zw))
    (zk (yg (YY VT zjH T.z_tuple PyProof.Rows.boot_tuple (zg (zd 1 rfl zbs ZZ Ya) zl ze) ZY ZX ze zo))
    zw)))
theorem zkG (hr : rO F cdv A s n "read" 17 99) : bO Pg w K mg base F cdv A outer s H E fuel n ["text", "floor"] "read" 17 99 ZM :=
  (zk (yJ (wD (wu (vP (t := .str) zjM T.z_isinstance zjN T.z_str PyProof.Rows.boot_str (zd 0 rfl QJ ja jb) Qq Qp ze ze (zR ze zo)) (jz _ _) wV)) (zk Jf
    zw) zw)
    (zk (yf 1 zbu.nd rfl zjI (zW (zV (hall 98) rfl) hr zjL T.n98.m T.n98.f.kp (T.n98.b) (zg (zd 0 rfl QJ ja jb) zl ze) zaU ze zo))
    (zk (yJ (IW.t (wt (wD (wu (zW (zV (hall 5) rfl) hr zjK T.n5.m T.n5.f.kp (T.n5.b) (zg (zd 1 rfl QI xU xW) zl ze) Qx ze zo) (Ja _ _) wV)) (vp (yy rfl Jp (zW (zV (hall 87) rfl) hr zjJ T.n87.m T.n87.f.kp (T.n87.b) (zg (zd 1 rfl QI xU xW) zl ze) zaT ze zo) (zd 0 rfl QJ ja jb) (yr _))))) (zk Jf
    zw) zw)
    (zk (Je 1 rfl QI xU xW)
    zw))))
theorem zkH (hr : rO F cdv A s n "_law_due" 24 106) : bO Pg w K mg base F cdv A outer s H E fuel n ["_law_text", "_law_rows", "_law_cells", "_law_row"] "_law_due" 24 106 vw :=
  (zk (yf 1 Yb.nd rfl zjQ (JB (zd 0 rfl zjO xp xq) (by decide +kernel)))
    (zk (yJ (IW.t (wt (yy rfl Jp (yt hr.units (zd 1 rfl wz yN yO) (YX YU zj) (fun _ _ => rfl)) yC (yr _)) (wt (yy rfl (YV hr.units) (yx wT vg T.z_len PySem.boot_len (zg (zd 1 rfl wz yN yO) zl ze) xz xy ze zo) zj (yr _)) (wt (yy rfl (VS hr.units) (yx wT vg T.z_len PySem.boot_len (zg (zd 1 rfl wz yN yO) zl ze) xz xy ze zo) zj (yr _)) (vp (yy rfl (VS hr.units) (yx jC vg T.z_len PySem.boot_len (zg (yt hr.units (zd 1 rfl wz yN yO) zj (fun _ _ => rfl)) zl yI) xz xy yI zo) zj (yr _))))))) (zk (yg Zq)
    zw) zw)
    (zk (yf 2 Yb.nd rfl zbv (vM zl))
    (zk (Xe 3 PassesOwn.never rfl Yb.nd rfl zjP (vq zbw T.z_range (zg (zD ju (yx wT vg T.z_len PySem.boot_len (zg (zd 1 rfl wz yN yO) zl ze) xz xy ze zo) zj) zl ym) ym) (zk (yJ (IW.t (wt (yy rfl (qo hr.units) (yx jC vg T.z_len PySem.boot_len (zg (yt hr.units (zd 1 rfl wz yN yO) (zd 3 rfl QK jJ jK) (fun _ _ => rfl)) zl yI) xz xy yI zo) (yx jC vg T.z_len PySem.boot_len (zg (yt hr.units (zd 1 rfl wz yN yO) zj (fun _ _ => rfl)) zl yI) xz xy yI zo) (yr _)) (vp (wu (wv rfl (wx (sc := zy (zF 24)) (N := ["_law_text", "_law_rows", "_law_cells", "_law_row"]) rfl rfl (by decide +kernel)) (zgk (yt hr.units (zd 1 rfl wz yN yO) (zd 3 rfl QK jJ jK) (fun _ _ => rfl))) (.inr ⟨_, rfl, fun _ _ _ _ => (yy rfl gz (zd 0 rfl (xF (by decide +kernel)) zaX zaY) yC (by with_unfolding_all rfl))⟩) (fun _ _ _ _ => (zd 0 rfl (xF (by decide +kernel)) zaX zaY))) (zfz _ _ _ _) zfA)))) (zk (yg Zq)
    zw) zw)
    (zk (yf 2 Yb.nd rfl zbv (zD yk (zd 2 rfl Vf XQ XR) (wv rfl (wx (sc := zy (zF 24)) (N := ["_law_text", "_law_rows", "_law_cells", "_law_row"]) rfl rfl (by decide +kernel)) (vq zbw T.z_range (zg (yx jC vg T.z_len PySem.boot_len (zg (yt hr.units (zd 1 rfl wz yN yO) (zd 3 rfl QK jJ jK) (fun _ _ => rfl)) zl yI) xz xy yI zo) zl wU) wU) (.inr ⟨_, rfl, fun _ _ _ _ => (yy rfl qR (JD (yt hr.units (zd 2 rfl (ww (by decide +kernel)) yN yO) (zd 4 rfl (ww (by decide +kernel)) jJ jK) (fun _ _ => rfl)) (zd 0 rfl (xF (by decide +kernel)) Qv Qw) (fun _ _ => rfl)) yC (yr _))⟩) (fun _ _ _ _ => (jx (zg (zd 4 rfl (ww (by decide +kernel)) jJ jK) (zg (zd 0 rfl (xF (by decide +kernel)) Qv Qw) zl ze) ze))))))
    zw)))
    (zk (yJ (IW.t (wt (wD (qy rfl rfl jw jw zj (yx wT vg T.z_len PySem.boot_len (zg (zd 2 rfl Vf XQ XR) zl ze) xz xy ze zo) zj)) (wt (yy rfl gz yC (yt hr.units (zd 1 rfl wz yN yO) (YX YU zj) (fun _ _ => rfl)) (by with_unfolding_all rfl)) (vp (yy rfl (qo hr.units) (zD yk (yx (Xh rfl) zjS T.z_max PyProof.Rows.boot_max (zg (wv rfl (wx (sc := zy (zF 24)) (N := ["_law_text", "_law_rows", "_law_cells", "_law_row"]) rfl rfl (by decide +kernel)) (Zv (zd 2 rfl Vf XQ XR)) (.inl ⟨rfl, rfl⟩) (fun _ _ _ _ => (yt hr.units (zd 0 rfl (xF (by decide +kernel)) vY vZ) zj (fun _ _ => rfl)))) zl xw) XO XN xw zo) zj) (yx jC vg T.z_len PySem.boot_len (zg (yt hr.units (zd 1 rfl wz yN yO) zj (fun _ _ => rfl)) zl yI) xz xy yI zo) (yr _)))))) (zk (yg Zq)
    zw) zw)
    (zk (yg (YY VT zjR T.z_tuple PyProof.Rows.boot_tuple (zg (zd 2 rfl Vf XQ XR) zl ze) ZY ZX ze zo))
    zw))))))
theorem zkI (hr : rO F cdv A s n "_law_bad" 25 107) : bO Pg w K mg base F cdv A outer s H E fuel n ["_law_script", "_law_text", "_law_at", "_law_rows", "_law_spot", "_law_way", "_law_some"] "_law_bad" 25 107 ZN :=
  (zk (yf 2 jN.nd rfl zjY (zD wS (zW (zV (hall 13) rfl) hr Yf T.n13.m T.n13.f.kp (T.n13.b) (zg (zd 0 rfl Yc xI xJ) (zg zj zl zB) ze) wJ ze (zR zB zo)) (yx jC zbx T.z_len PySem.boot_len (zg (zd 1 rfl wA xp xq) zl ze) xz xy ze zo)))
    (zk (yf 3 jN.nd rfl zjX (JB (zd 1 rfl wA xp xq) (by decide +kernel)))
    (zk (yf 4 jN.nd rfl zjW (zD wS (zW (zV (hall 13) rfl) hr Yf T.n13.m T.n13.f.kp (T.n13.b) (zg (zd 0 rfl Yc xI xJ) (zg zj zl zB) ze) wJ ze (zR zB zo)) (zD ju (yx wT zbx T.z_len PySem.boot_len (zg (zd 3 rfl Ye yN yO) zl ze) xz xy ze zo) zj)))
    (zk (yf 5 jN.nd rfl zjV (zD wS (zW (zV (hall 13) rfl) hr Yf T.n13.m T.n13.f.kp (T.n13.b) (zg (zd 0 rfl Yc xI xJ) (zg zj zl zB) ze) wJ ze (zR zB zo)) zj))
    (zk (yJ (yy rfl (vo hr.units) (zd 5 rfl Yd jc jd) zj (yr _)) (zk (yg (zD vv (Xl (zd 1 rfl wA xp xq) (zd 2 rfl jO wK wL)) (JF (zd 1 rfl wA xp xq) (zD yk (zd 2 rfl jO wK wL) zj))))
    zw) zw)
    (zk (yJ (yy rfl (vo hr.units) (zd 5 rfl Yd jc jd) zj (yr _)) (zk (yg (zD vv (Xl (zd 1 rfl wA xp xq) (zD yk (zd 2 rfl jO wK wL) zj)) (JF (zd 1 rfl wA xp xq) (zd 2 rfl jO wK wL))))
    zw) zw)
    (zk (yJ (yy rfl (vo hr.units) (zd 5 rfl Yd jc jd) zj (yr _)) (zk (yg (zD vv (zD vv (Xl (zd 1 rfl wA xp xq) (zd 2 rfl jO wK wL)) (JD yC (zD wS (zW (zV (hall 13) rfl) hr Yf T.n13.m T.n13.f.kp (T.n13.b) (zg (zd 0 rfl Yc xI xJ) (zg zj zl zB) ze) wJ ze (zR zB zo)) zj) (fun _ _ => rfl))) (JF (zd 1 rfl wA xp xq) (zD yk (zd 2 rfl jO wK wL) zj))))
    zw) zw)
    (zk (yJ (yy rfl (vo hr.units) (zd 5 rfl Yd jc jd) zj (yr _)) (zk (yg (gy (zD yk (Jn (zd 3 rfl Ye yN yO) (zd 4 rfl Vg XS XT)) (gx (zd 3 rfl Ye yN yO) (zD yk (zd 4 rfl Vg XS XT) zj))) (by decide +kernel) ym))
    zw) zw)
    (zk (yJ (yy rfl (vo hr.units) (zd 5 rfl Yd jc jd) zj (yr _)) (zk (yg (gy (zD yk (Jn (zd 3 rfl Ye yN yO) (zD yk (zd 4 rfl Vg XS XT) zj)) (gx (zd 3 rfl Ye yN yO) (zd 4 rfl Vg XS XT))) (by decide +kernel) ym))
    zw) zw)
    (zk (yf 6 jN.nd rfl zjU (vM (zg yC (zg yC (zg yC (zg yC (zg yC (zg yC (zg (Xl (zd 1 rfl wA xp xq) (YX YU zj)) (zg (zD vv (zd 1 rfl wA xp xq) yC) (zg Zq (zg zj (zg (vM (zg (zd 1 rfl wA xp xq) zl ze)) (zg (zD zge yC zj) zl ym) zeW) zB) zB) ym) yI) zB) zB) zB) zB) zB) zB)))
    (zk (yg (yt hr.units (zd 6 rfl zjT zib zic) (zD wS (zW (zV (hall 13) rfl) hr Yf T.n13.m T.n13.f.kp (T.n13.b) (zg (zd 0 rfl Yc xI xJ) (zg zj zl zB) ze) wJ ze (zR zB zo)) zj) (fun _ _ => rfl)))
    zw)))))))))))
theorem zkJ (hr : rO F cdv A s n "law" 26 108) : bO Pg w K mg base F cdv A outer s H E fuel n ["_law_script", "_law_floor_here", "_law_text", "_law_row", "_law_wide", "_law_bad_here", "_law_due_here"] "law" 26 108 ZO :=
  (zk (yf 1 vh.nd rfl zj3 (zW (zV (hall 15) rfl) hr zkc T.n15.m T.n15.f.kp (T.n15.b) (zg (zd 0 rfl QL xI xJ) (zg zj (zg zj zl zB) zB) ze) zia ze (zR zB (zR zB zo))))
    (zk (yf 2 vh.nd rfl zbC yC)
    (zk (Xe 3 PassesOwn.never rfl vh.nd rfl zj2 (vq zbE T.z_range (zg (zD yk (yx (Xh rfl) zbD T.z_max PyProof.Rows.boot_max (zg (wv rfl (wx (sc := zy (zF 26)) (N := ["_law_script", "_law_floor_here", "_law_text", "_law_row", "_law_wide", "_law_bad_here", "_law_due_here"]) rfl rfl (by decide +kernel)) (Zv (zd 1 rfl zbA Qr Qs)) (.inl ⟨rfl, rfl⟩) (fun _ _ _ _ => (yt hr.units (zd 0 rfl (xF (by decide +kernel)) vY vZ) zj (fun _ _ => rfl)))) zl xw) XO XN xw zo) zj) zl ym) ym) (zk (yf 4 vh.nd rfl zj1 (zD yk (yx (Xh rfl) zbD T.z_max PyProof.Rows.boot_max (zg (wv rfl (wx (sc := zy (zF 26)) (N := ["_law_script", "_law_floor_here", "_law_text", "_law_row", "_law_wide", "_law_bad_here", "_law_due_here"]) rfl rfl (by decide +kernel)) (Zv (zd 1 rfl zbA Qr Qs)) (.inl ⟨rfl, rfl⟩) (fun _ _ _ _ => (yt hr.units (zd 0 rfl (xF (by decide +kernel)) vY vZ) zj (fun _ _ => rfl)))) zl xw) XO XN xw zo) zj))
    (zk (yf 2 vh.nd rfl zbC (zD vv (zD vv (zd 2 rfl zbz xp xq) (JA (wv rfl (wx (sc := zy (zF 26)) (N := ["_law_script", "_law_floor_here", "_law_text", "_law_row", "_law_wide", "_law_bad_here", "_law_due_here"]) rfl rfl (by decide +kernel)) (vq zbE T.z_range (zg (zd 4 rfl zjZ Qt Qu) zl ze) ze) (.inl ⟨rfl, rfl⟩) (fun _ _ _ _ => (JD yC (YY zfD (Jo (by decide +kernel)) T.z_int PyProof.Rows.boot_int (zg (Zs (qq hr.units) (jx (zg (zd 4 rfl (ww (by decide +kernel)) jJ jK) (zg (zd 0 rfl (xF (by decide +kernel)) Qv Qw) zl ze) ze)) (zd 2 rfl (ww (by decide +kernel)) Qr Qs) (by with_unfolding_all rfl)) zl qv) zaS zaR qv zo) (fun _ _ => rfl)))) (by decide +kernel) xw)) yC))
    zw)))
    (zk (yf 5 vh.nd rfl zj0 (zW (zV (hall 107) rfl) hr zkb T.n107.m T.n107.f.kp (T.n107.b) (zg (zd 0 rfl QL xI xJ) (zg (zd 2 rfl zbz xp xq) zl ze) ze) zh9 ze (zR ze zo)))
    (zk (yf 6 vh.nd rfl zbB Zq)
    (zk (yJ (wu (vP (t := .str) zj8 T.z_isinstance zj9 T.z_str PyProof.Rows.boot_str (zd 5 rfl Yg ZV ZW) Qq Qp ze ze (zR ze zo)) (jz _ _) wV) (zk (yf 6 vh.nd rfl zbB (zW (zV (hall 106) rfl) hr zka T.n106.m T.n106.f.kp (T.n106.b) (zg (zd 5 rfl Yg ZV ZW) zl ze) zh8 ze zo))
    zw) zw)
    (zk (yJ (zfu (zd 6 rfl zby zaP zaQ)) (zk (yg (jy (zW (zV (hall 143) rfl) hr zj7 T.n143.m T.n143.f.kp (T.n143.b) (zg (zd 5 rfl Yg ZV ZW) zl ze) zh7 ze zo) (Zu (zW (zV (hall 142) rfl) hr zj6 T.n142.m T.n142.f.kp (T.n142.b) (zg (zd 5 rfl Yg ZV ZW) zl ze) zh6 ze zo))))
    zw) zw)
    (zk (yg (jy (Zs (YV hr.units) (zD wS (zW (zV (hall 13) rfl) hr zj5 T.n13.m T.n13.f.kp (T.n13.b) (zg (zd 0 rfl QL xI xJ) (zg zj zl zB) ze) wJ ze (zR zB zo)) zj) zj (yr _)) (Zu (Zs (vo hr.units) (zW (zV (hall 99) rfl) hr zj4 T.n99.m T.n99.f.kp (T.n99.b) (zg (zd 5 rfl Yg ZV ZW) zl ze) Qo ze zo) (zd 6 rfl zby zaP zaQ) (yr _)))))
    zw))))))))
end
structure Xs (Pg : Program) (w : World) (K : PySem.W.Frag) (mg : Str → Option Value) (base : Heap) (F : Nat → Addr) (FD : Nat → FuncData) (CL : Nat → Addr) (fuel n : Nat) : Prop where
  x141 : FnOk Pg w K mg base (yE Pg w) n (F 141) (FD 141) (zZ 141) (wF K (xf CL) (zn U fuel n) 141)
  x142 : FnOk Pg w K mg base (yE Pg w) n (F 142) (FD 142) (zZ 142) (wF K (xf CL) (zn U fuel n) 142)
  x143 : FnOk Pg w K mg base (yE Pg w) n (F 143) (FD 143) (zZ 143) (wF K (xf CL) (zn U fuel n) 143)
theorem zkK (T : Txt K mg F FD TK CL) (hall : ∀ i, FnOk Pg w K mg base yv n (F i) (FD i) (zZ i) (xa K (zn U fuel n) i (vX i))) (hx : Xs Pg w K mg base F FD CL fuel n) (cdv : Value) (A : Around) (outer : List PySem.Env) (s : Shared) (H : Hp) (E : XK)
    (hr : Room n (A.deeper (envOfC "read" (zy (zF 17)) s.heap.objs.size (F 141) cdv))) :
    IXs (xg (yE Pg w) Pg w K mg base ["text", "floor"] "read" (zy (zF 17)) (F 141) cdv A outer s H E) (xf CL) E (zS (zn U fuel n) fuel vT) (xK (zF 17)) :=
  (wa (qV (wD (wu (vP (t := .str) zke T.z_isinstance zkf T.z_str PyProof.Rows.boot_str (zd 0 rfl QM ja jb) Qq Qp ze ze (zR ze zo)) (jz _ _) wV)) (wa (qU (cl := xf CL) 6 rfl (fun _ _ _ _ _ _ _ _ I m q => qS I m q) T.q6 rfl zbG T.y6 jg (fun _ _ _ h => h _) QC zB)
    wX) wX)
    (wa (Xi (yf 1 zbF.nd rfl zkd (zW (zV (hall 98) rfl) hr zkg T.n98.m T.n98.f.kp (T.n98.b) (zg (zd 0 rfl QM ja jb) zl ze) zaU ze zo)))
    (wa (qV (IW.t (wt (wD (wu (zW (zV (hall 5) rfl) hr zki T.n5.m T.n5.f.kp (T.n5.b) (zg (zd 1 rfl QN xU xW) zl ze) Qx ze zo) (Ja _ _) wV)) (vp (yy rfl Jp (zW (zV (hall 87) rfl) hr zkh T.n87.m T.n87.f.kp (T.n87.b) (zg (zd 1 rfl QN xU xW) zl ze) zaT ze zo) (zd 0 rfl QM ja jb) (yr _))))) (wa (qU (cl := xf CL) 6 rfl (fun _ _ _ _ _ _ _ _ I m q => qS I m q) T.q6 rfl zbG T.y6 jg (fun _ _ _ h => h _) QC zB)
    wX) wX)
    (wa (Xi (Je 1 rfl QN xU xW))
    wX))))
theorem zkL (T : Txt K mg F FD TK CL) (hall : ∀ i, FnOk Pg w K mg base yv n (F i) (FD i) (zZ i) (xa K (zn U fuel n) i (vX i))) (hx : Xs Pg w K mg base F FD CL fuel n) (cdv : Value) (A : Around) (outer : List PySem.Env) (s : Shared) (H : Hp) (E : XK)
    (hr : Room n (A.deeper (envOfC "_law_by_base" (zy (zF 23)) s.heap.objs.size (F 142) cdv))) :
    IXs (xg (yE Pg w) Pg w K mg base ["_law_text", "e"] "_law_by_base" (zy (zF 23)) (F 142) cdv A outer s H E) (xf CL) E (zS (zn U fuel n) fuel jG) (xK (zF 23)) :=
  (wa (zgo (cl := xf CL) rfl rfl (fun pn xe E1 hP => (wa (qY (qX (i := 141) hx.x141 hP hr zkm T.n141.m T.n141.f.kp T.n141.b (zg (zd 0 rfl zkj xp xq) zl ze) Qo ze zo))
    wX))
    (all_cons T.t1 (all_cons T.t6 Ju)) zkp T.y0 ziI zbH.nd rfl zkl (zfR rfl zkk ziG ziH zkn T.z_isinstance zko T.z_ValueError (all_cons T.v1 (all_cons T.v6 Ju))))
    (wa (Xi (yg YW))
    wX))
theorem zkM (T : Txt K mg F FD TK CL) (hall : ∀ i, FnOk Pg w K mg base yv n (F i) (FD i) (zZ i) (xa K (zn U fuel n) i (vX i))) (hx : Xs Pg w K mg base F FD CL fuel n) (cdv : Value) (A : Around) (outer : List PySem.Env) (s : Shared) (H : Hp) (E : XK)
    (hr : Room n (A.deeper (envOfC "_law_refused" (zy (zF 22)) s.heap.objs.size (F 143) cdv))) :
    IXs (xg (yE Pg w) Pg w K mg base ["_law_text"] "_law_refused" (zy (zF 22)) (F 143) cdv A outer s H E) (xf CL) E (zS (zn U fuel n) fuel jH) (xK (zF 22)) :=
  (wa (zgn (cl := xf CL) rfl rfl (fun pn xe E1 hP => (wa (qY (qX (i := 141) hx.x141 hP hr zks T.n141.m T.n141.f.kp T.n141.b (zg (zd 0 rfl zkr xp xq) zl ze) Qo ze zo))
    wX))
    (all_cons T.s6 Ju) zkt T.y6 QC)
    (wa (Xi (yg YW))
    wX))
theorem Vh (T : Txt K mg F FD TK CL) (hall : ∀ i, FnOk Pg w K mg base yv n (F i) (FD i) (zZ i) (xa K (zn U fuel n) i (vX i))) (hx : Xs Pg w K mg base F FD CL fuel n) : Xs Pg w K mg base F FD CL fuel (n + 1) where
  x141 := Js (F0 := ⟨1, 2, .nil, [], some vT⟩) T.n141.f zbF rfl rfl rfl rfl (zkK T hall hx)
  x142 := Js (F0 := ⟨1, 2, .nil, [], some jG⟩) T.n142.f zbH rfl rfl rfl rfl (zkL T hall hx)
  x143 := Js (F0 := ⟨1, 1, .nil, [], some jH⟩) T.n143.f zkq rfl rfl rfl rfl (zkM T hall hx)
theorem yl (T : Txt K mg F FD TK CL) : ∀ n, (∀ i, FnOk Pg w K mg base yv n (F i) (FD i) (zZ i) (xa K (zn U fuel n) i (vX i))) ∧ Xs Pg w K mg base F FD CL fuel n
  | 0 => ⟨fun _ => zfx, ⟨Jv, Jv, Jv⟩⟩
  | n + 1 => ⟨fun i => match i with
    | 0 => xl (F0 := ⟨3, 3, ZB, [], none⟩) T.n0.f ziJ rfl rfl rfl rfl (by decide) rfl (zku T (yl T n).1)
    | 1 => xl (F0 := ⟨1, 1, ZC, [], none⟩) T.n1.f ziO rfl rfl rfl rfl (by decide) rfl (zkv T (yl T n).1)
    | 2 => xl (F0 := ⟨1, 1, jE, [], none⟩) T.n2.f ziS rfl rfl rfl rfl (by decide) rfl (zkw T (yl T n).1)
    | 3 => zh rfl
    | 4 => xl (F0 := ⟨1, 1, ZD, [], none⟩) T.n4.f ziU rfl rfl rfl rfl (by decide) rfl (zkx T (yl T n).1)
    | 5 => xl (F0 := ⟨1, 1, vQ, [], none⟩) T.n5.f ziZ rfl rfl rfl rfl (by decide) rfl (zky T (yl T n).1)
    | 6 => xl (F0 := ⟨1, 1, ZE, [], none⟩) T.n6.f zi6 rfl rfl rfl rfl (by decide) rfl (zkz T (yl T n).1)
    | 7 => zh rfl
    | 8 => zh rfl
    | 9 => zh rfl
    | 10 => zh rfl
    | 11 => zh rfl
    | 12 => zh rfl
    | 13 => xl (F0 := ⟨2, 2, ZF, [], none⟩) T.n13.f zi8 rfl rfl rfl rfl (by decide) rfl (zkA T (yl T n).1)
    | 14 => xl (F0 := ⟨3, 3, ZG, [], none⟩) T.n14.f zja rfl rfl rfl rfl (by decide) rfl (zkB T (yl T n).1)
    | 15 => xl (F0 := ⟨3, 13, ZI, [], none⟩) T.n15.f wj rfl rfl rfl rfl (by decide) rfl (zkC T (yl T n).1)
    | 16 => zh rfl
    | 17 => zh rfl
    | 18 => zh rfl
    | 19 => zh rfl
    | 20 => zh rfl
    | 21 => zh rfl
    | 22 => zh rfl
    | 23 => zh rfl
    | 24 => zh rfl
    | 25 => zh rfl
    | 26 => zh rfl
    | 27 => zh rfl
    | 28 => zh rfl
    | 29 => zh rfl
    | 30 => zh rfl
    | 31 => zh rfl
    | 32 => zh rfl
    | 33 => zh rfl
    | 34 => zh rfl
    | 35 => zh rfl
    | 36 => zh rfl
    | 37 => zh rfl
    | 38 => zh rfl
    | 39 => zh rfl
    | 40 => zh rfl
    | 41 => zh rfl
    | 42 => zh rfl
    | 43 => zh rfl
    | 44 => zh rfl
    | 45 => zh rfl
    | 46 => zh rfl
    | 47 => zh rfl
    | 48 => zh rfl
    | 49 => zh rfl
    | 50 => zh rfl
    | 51 => zh rfl
    | 52 => zh rfl
    | 53 => zh rfl
    | 54 => zh rfl
    | 55 => zh rfl
    | 56 => zh rfl
    | 57 => zh rfl
    | 58 => zh rfl
    | 59 => zh rfl
    | 60 => zh rfl
    | 61 => zh rfl
    | 62 => zh rfl
    | 63 => zh rfl
    | 64 => zh rfl
    | 65 => zh rfl
    | 66 => zh rfl
    | 67 => zh rfl
    | 68 => zh rfl
    | 69 => zh rfl
    | 70 => zh rfl
    | 71 => zh rfl
    | 72 => zh rfl
    | 73 => zh rfl
    | 74 => zh rfl
    | 75 => zh rfl
    | 76 => zh rfl
    | 77 => zh rfl
    | 78 => zh rfl
    | 79 => zh rfl
    | 80 => zh rfl
    | 81 => zh rfl
    | 82 => zh rfl
    | 83 => zh rfl
    | 84 => zh rfl
    | 85 => zh rfl
    | 86 => xl (F0 := ⟨3, 3, ZJ, [], none⟩) T.n86.f zjq rfl rfl rfl rfl (by decide) rfl (zkD T (yl T n).1)
    | 87 => xl (F0 := ⟨1, 2, ZK, [], none⟩) T.n87.f zbr rfl rfl rfl rfl (by decide) rfl (zkE T (yl T n).1)
    | 88 => zh rfl
    | 89 => zh rfl
    | 90 => zh rfl
    | 91 => zh rfl
    | 92 => zh rfl
    | 93 => zh rfl
    | 94 => zh rfl
    | 95 => zh rfl
    | 96 => zh rfl
    | 97 => zh rfl
    | 98 => xl (F0 := ⟨1, 6, jF, [], none⟩) T.n98.f Ve rfl rfl rfl rfl (by decide) rfl (zkF T (yl T n).1)
    | 99 => xl (F0 := ⟨1, 2, ZM, [], none⟩) T.n99.f zbu rfl rfl rfl rfl (by decide) rfl (zkG T (yl T n).1)
    | 100 => zh rfl
    | 101 => zh rfl
    | 102 => zh rfl
    | 103 => zh rfl
    | 104 => zh rfl
    | 105 => zh rfl
    | 106 => xl (F0 := ⟨1, 4, vw, [], none⟩) T.n106.f Yb rfl rfl rfl rfl (by decide) rfl (zkH T (yl T n).1)
    | 107 => xl (F0 := ⟨2, 7, ZN, [], none⟩) T.n107.f jN rfl rfl rfl rfl (by decide) rfl (zkI T (yl T n).1)
    | 108 => xl (F0 := ⟨1, 7, ZO, [], none⟩) T.n108.f vh rfl rfl rfl rfl (by decide) rfl (zkJ T (yl T n).1)
    | 109 => zh rfl
    | 110 => zh rfl
    | 111 => zh rfl
    | 112 => zh rfl
    | 113 => zh rfl
    | 114 => zh rfl
    | 115 => zh rfl
    | 116 => zh rfl
    | 117 => zh rfl
    | 118 => zh rfl
    | 119 => zh rfl
    | 120 => zh rfl
    | 121 => zh rfl
    | 122 => zh rfl
    | 123 => zh rfl
    | 124 => zh rfl
    | 125 => zh rfl
    | 126 => zh rfl
    | 127 => zh rfl
    | 128 => zh rfl
    | 129 => zh rfl
    | 130 => zh rfl
    | 131 => zh rfl
    | 132 => zh rfl
    | 133 => zh rfl
    | 134 => zh rfl
    | 135 => zh rfl
    | 136 => zh rfl
    | 137 => zh rfl
    | 138 => zh rfl
    | 139 => zh rfl
    | 140 => zh rfl
    | 141 => Jt (F0 := ⟨1, 2, .nil, [], some vT⟩) (Vh T (yl T n).1 (yl T n).2).x141 rfl rfl
    | 142 => Jt (F0 := ⟨1, 2, .nil, [], some jG⟩) (Vh T (yl T n).1 (yl T n).2).x142 rfl rfl
    | 143 => Jt (F0 := ⟨1, 1, .nil, [], some jH⟩) (Vh T (yl T n).1 (yl T n).2).x143 rfl rfl
    | _ + 144 => zh rfl, Vh T (yl T n).1 (yl T n).2⟩
theorem zkN (T : Txt K mg F FD TK CL) (n i : Nat) : FnOk Pg w K mg base yv n (F i) (FD i) (zZ i) (xa K (zn U fuel n) i (vX i)) := (yl T n).1 i
theorem zkO {h : Heap} (X : K.In h) (G : h.Ns mainGlobals mg) {f0 f1 f2 f4 f5 f6 f13 f14 f15 f86 f87 f98 f99 f106 f107 f108 f142 f143 : Addr} {od0 od1 od2 od4 od5 od6 od13 od14 od15 od86 od87 od98 od99 od106 od107 od108 od142 od143 an0 an1 an2 an4 an5 an6 an13 an14 an15 an86 an87 an98 an99 an106 an107 an108 an142 an143 : Option Addr} {sl0 sl1 sl2 sl4 sl5 sl6 sl13 sl14 sl15 sl86 sl87 sl98 sl99 sl106 sl107 sl108 sl142 sl143 : Array (Option Value)} {oc0 oc1 oc2 oc4 oc5 oc6 oc13 oc14 oc15 oc86 oc87 oc98 oc99 oc106 oc107 oc108 oc142 oc143 kV0 kV1 kV2 kV4 kV5 kV6 kV13 kV14 kV15 kV86 kV87 kV98 kV99 kV106 kV107 kV108 kV142 kV143 dc0 dc1 dc2 dc4 dc5 dc6 dc13 dc14 dc15 dc86 dc87 dc98 dc99 dc106 dc107 dc108 dc142 dc143 pm0 pm1 pm2 pm4 pm5 pm6 pm13 pm14 pm15 pm86 pm87 pm98 pm99 pm106 pm107 pm108 pm142 pm143 cd0 cd1 cd2 cd4 cd5 cd6 cd13 cd14 cd15 cd86 cd87 cd98 cd99 cd106 cd107 cd108 cd142 cd143 ct0 ct1 ct2 ct4 ct5 ct6 ct13 ct14 ct15 ct86 ct87 ct98 ct99 ct106 ct107 ct108 ct142 ct143 : Value} {t0 t1 : Tok} {C0 C1 C6 : Addr}
    (h0 : fH K f0 oc0 od0 kV0 dc0 pm0 an0 cd0 ct0 sl0 "is_whole" 7)
    (h1 : fH K f1 oc1 od1 kV1 dc1 pm1 an1 cd1 ct1 sl1 "is_couple" 8)
    (h2 : fH K f2 oc2 od2 kV2 dc2 pm2 an2 cd2 ct2 sl2 "is_cell" 9)
    (h4 : fH K f4 oc4 od4 kV4 dc4 pm4 an4 cd4 ct4 sl4 "is_rising" 10)
    (h5 : fH K f5 oc5 od5 kV5 dc5 pm5 an5 cd5 ct5 sl5 "is_floor" 11)
    (h6 : fH K f6 oc6 od6 kV6 dc6 pm6 an6 cd6 ct6 sl6 "checked" 12)
    (h13 : fH K f13 oc13 od13 kV13 dc13 pm13 an13 cd13 ct13 sl13 "_law_cell" 19)
    (h14 : fH K f14 oc14 od14 kV14 dc14 pm14 an14 cd14 ct14 sl14 "_law_mix" 20)
    (h15 : fH K f15 oc15 od15 kV15 dc15 pm15 an15 cd15 ct15 sl15 "_law_floor" 21)
    (h86 : fH K f86 oc86 od86 kV86 dc86 pm86 an86 cd86 ct86 sl86 "shown_line" 14)
    (h87 : fH K f87 oc87 od87 kV87 dc87 pm87 an87 cd87 ct87 sl87 "shown" 15)
    (h98 : fH K f98 oc98 od98 kV98 dc98 pm98 an98 cd98 ct98 sl98 "cells_in" 16)
    (h99 : fH K f99 oc99 od99 kV99 dc99 pm99 an99 cd99 ct99 sl99 "read" 17)
    (h106 : fH K f106 oc106 od106 kV106 dc106 pm106 an106 cd106 ct106 sl106 "_law_due" 24)
    (h107 : fH K f107 oc107 od107 kV107 dc107 pm107 an107 cd107 ct107 sl107 "_law_bad" 25)
    (h108 : fH K f108 oc108 od108 kV108 dc108 pm108 an108 cd108 ct108 sl108 "law" 26)
    (h142 : fH K f142 oc142 od142 kV142 dc142 pm142 an142 cd142 ct142 sl142 "_law_by_base" 23)
    (h143 : fH K f143 oc143 od143 kV143 dc143 pm143 an143 cd143 ct143 sl143 "_law_refused" 22)
    (y0 : PySem.W.nsIn K mainGlobals "LeapError" = some (some (.ref C0)))
    (y1 : PySem.W.nsIn K mainGlobals "BadFloor" = some (some (.ref C1)))
    (y6 : PySem.W.nsIn K mainGlobals "BadText" = some (some (.ref C6)))
    (xq1 : PySem.W.excIn K C1 [.type "ValueError", .type "Exception", .type "BaseException", .type "object"] "ValueError.__new__" = true) (xt1 : PySem.W.exmOne K (.ref C1) (.ref C0) = some true) (xv1 : PySem.W.kitOne K (.ref C1) (.type "ValueError") = some true)
    (xq6 : PySem.W.excIn K C6 [.type "ValueError", .type "Exception", .type "BaseException", .type "object"] "ValueError.__new__" = true) (xt6 : PySem.W.exmOne K (.ref C6) (.ref C0) = some true) (xv6 : PySem.W.kitOne K (.ref C6) (.type "ValueError") = some true)
    (xs6 : PySem.W.exmOne K (.ref C6) (.ref C6) = some true)
    (z_isinstance : PySem.W.nsIn K mainGlobals "isinstance" = some none)
    (z_str : PySem.W.nsIn K mainGlobals "str" = some none)
    (z_max : PySem.W.nsIn K mainGlobals "max" = some none)
    (z_range : PySem.W.nsIn K mainGlobals "range" = some none)
    (z_int : PySem.W.nsIn K mainGlobals "int" = some none)
    (z_len : PySem.W.nsIn K mainGlobals "len" = some none)
    (z_tuple : PySem.W.nsIn K mainGlobals "tuple" = some none)
    (z_all : PySem.W.nsIn K mainGlobals "all" = some none)
    (z_enumerate : PySem.W.nsIn K mainGlobals "enumerate" = some none)
    (z_bool : PySem.W.nsIn K mainGlobals "bool" = some none)
    (z_ValueError : PySem.W.nsIn K mainGlobals "ValueError" = some none)
    (c0 : PySem.W.nsIn K mainGlobals "LAST_LINE" = some (some (.int 7 t0)))
    (c1 : PySem.W.nsIn K mainGlobals "MOST_CELLS" = some (some (.int 24 t1)))
    : ∃ F FD TK CL, Txt K mg F FD TK CL ∧ F 108 = f108 ∧ (∀ (s : Shared) (u : Value), BindsTo s (FD 108) ⟨[u], []⟩ [("_law_script", u)]) :=
  let adF : Nat → Addr := fun i => match i with
    | 1 => f1
    | 2 => f2
    | 4 => f4
    | 5 => f5
    | 6 => f6
    | 13 => f13
    | 14 => f14
    | 15 => f15
    | 86 => f86
    | 87 => f87
    | 98 => f98
    | 99 => f99
    | 106 => f106
    | 107 => f107
    | 108 => f108
    | 142 => f142
    | 143 => f143
    | 141 => f99
    | _ => f0
  ⟨adF,
    fun i => ZU K (adF i),
    fun i => [t0, t1].getD i 0,
    fun i => match i with
      | 1 => C1
      | 6 => C6
      | _ => C0,
    {
      y0 := PySem.W.mg_of X G y0
      y1 := PySem.W.mg_of X G y1
      q1 := xq1
      t1 := xt1
      v1 := xv1
      y6 := PySem.W.mg_of X G y6
      q6 := xq6
      t6 := xt6
      v6 := xv6
      s6 := xs6
      n0 := yL X G h0 rfl fun _ _ _ _ _ _ => YR (fun _ _ _ => rfl)
      n1 := yL X G h1 rfl fun _ _ _ _ _ _ => xQ (fun _ => rfl)
      n2 := yL X G h2 rfl fun _ _ _ _ _ _ => xQ (fun _ => rfl)
      n4 := yL X G h4 rfl fun _ _ _ _ _ _ => xQ (fun _ => rfl)
      n5 := yL X G h5 rfl fun _ _ _ _ _ _ => xQ (fun _ => rfl)
      n6 := yL X G h6 rfl fun _ _ _ _ _ _ => xQ (fun _ => rfl)
      n13 := yL X G h13 rfl fun _ _ _ _ _ _ => qf (fun _ _ => rfl)
      n14 := yL X G h14 rfl fun _ _ _ _ _ _ => YR (fun _ _ _ => rfl)
      n15 := yL X G h15 rfl fun _ _ _ _ _ _ => YR (fun _ _ _ => rfl)
      n86 := yL X G h86 rfl fun _ _ _ _ _ _ => YR (fun _ _ _ => rfl)
      n87 := yL X G h87 rfl fun _ _ _ _ _ _ => xQ (fun _ => rfl)
      n98 := yL X G h98 rfl fun _ _ _ _ _ _ => xQ (fun _ => rfl)
      n99 := yL X G h99 rfl fun _ _ _ _ _ _ => xQ (fun _ => rfl)
      n106 := yL X G h106 rfl fun _ _ _ _ _ _ => xQ (fun _ => rfl)
      n107 := yL X G h107 rfl fun _ _ _ _ _ _ => qf (fun _ _ => rfl)
      n108 := yL X G h108 rfl fun _ _ _ _ _ _ => xQ (fun _ => rfl)
      n142 := yL X G h142 rfl fun _ _ _ _ _ _ => xQ (fun _ => rfl)
      n143 := yL X G h143 rfl fun _ _ _ _ _ _ => xQ (fun _ => rfl)
      n141 := yL X G h99 rfl fun _ _ _ _ _ _ => xQ (fun _ => rfl)
      z_isinstance := PySem.W.mg_none_of X G z_isinstance
      z_str := PySem.W.mg_none_of X G z_str
      z_max := PySem.W.mg_none_of X G z_max
      z_range := PySem.W.mg_none_of X G z_range
      z_int := PySem.W.mg_none_of X G z_int
      z_len := PySem.W.mg_none_of X G z_len
      z_tuple := PySem.W.mg_none_of X G z_tuple
      z_all := PySem.W.mg_none_of X G z_all
      z_enumerate := PySem.W.mg_none_of X G z_enumerate
      z_bool := PySem.W.mg_none_of X G z_bool
      z_ValueError := PySem.W.mg_none_of X G z_ValueError
      c0 := PySem.W.mg_of X G c0
      c1 := PySem.W.mg_of X G c1
    }, rfl, fun s u => by
      show BindsTo s (ZU K f108) _ _
      rw [zaN h108.l]
      exact .of_eq rfl⟩
end
end LK
namespace LK
open PySem PySem.W L2
noncomputable def en (P : Params) (x : Str) (t : Nat) (v : Value) : DictEntry := ⟨PyData.keyHash P x, .str x t, v⟩
noncomputable def fo (i : Nat) (x m : Str) (t c : Nat) : Obj := ⟨.type "function", none, .func (fnOf x x (jj (zF i)) (xK (zF i)) (zy (zF i)) .none .none .none (.str m t) none (.ref c) .none), #[]⟩
noncomputable def co (x : Str) (t l a r h : Nat) : Obj := ⟨.type "code", none, .fields #[.str x t, .str x (t + 1), .str "/claim/cut.py" (t + 2), .int l 0, .int a 0, .int 0 0, .int 0 0, .int 3 0, .ref r, .bool true, .int 181 0, .ref (r + 1), .none, .ref (r + 2), .ref (r + 3), .ref (r + 4), .int h 0, .int l 0, .str "/claim/cut.py" (h + 1)], #[]⟩
noncomputable def cn (x : Str) (t l a r h : Nat) : Obj := ⟨.type "code", none, .fields #[.str x t, .str x (t + 1), .str "/claim/cut.py" (t + 2), .int l 0, .int a 0, .int 0 0, .int 0 0, .int 3 0, .ref r, .bool true, .int 181 0, .ref (r + 1), .none, .none, .none, .ref (r + 2), .int h 0, .int l 0, .str "/claim/cut.py" (h + 1)], #[]⟩
noncomputable def HK (P : Params) : Frag := [(3, .mk (.type "dict") none (.dict #[en P "__name__" 165 (.str "law_leaperwalk_k19_spoilt_texts" 321), en P "__doc__" 166 .none, en P "__package__" 167 .none, en P "__loader__" 168 (.builtin "__main__.__loader__#opaque"), en P "__spec__" 169 .none, en P "__annotations__" 170 (.ref 6), en P "__builtins__" 171 (.ref 4), en P "__file__" 173 (.str "/claim/cut.py" 172), en P "__cached__" 174 .none, en P "LeapError" 206 (.ref 24), en P "BadFloor" 222 (.ref 37), en P "BadText" 238 (.ref 49), en P "LAST_LINE" 242 (.int 7 241), en P "MOST_CELLS" 244 (.int 24 243), en P "is_whole" 253 (.ref 58), en P "is_couple" 260 (.ref 65), en P "is_cell" 267 (.ref 72), en P "is_rising" 273 (.ref 77), en P "is_floor" 279 (.ref 82), en P "checked" 286 (.ref 89), en P "shown_line" 294 (.ref 94), en P "shown" 300 (.ref 99), en P "cells_in" 312 (.ref 106), en P "read" 320 (.ref 113), en P "_law_cell" 330 (.ref 120), en P "_law_mix" 339 (.ref 127), en P "_law_floor" 358 (.ref 134), en P "_law_refused" 365 (.ref 141), en P "_law_by_base" 373 (.ref 148), en P "_law_due" 379 (.ref 153), en P "_law_bad" 392 (.ref 160), en P "law" 398 (.ref 165)] 32) #[]),
  (17, .mk (.type "dict") none (.dict #[en P "__module__" 196 (.str "leaperwalk.errors" 187), en P "__qualname__" 198 (.str "LeapError" 197), en P "__firstlineno__" 200 (.int 2 199), en P "__static_attributes__" 201 (.ref 22)] 4) #[]),
  (23, .mk (.type "dict") none (.dict #[en P "__module__" 196 (.str "leaperwalk.errors" 187), en P "__firstlineno__" 200 (.int 2 199), en P "__static_attributes__" 201 (.ref 22), en P "__weakref__" 203 (.ref 25), en P "__doc__" 204 .none] 3) #[]),
  (24, .mk (.type "type") none (.cls (.mk "LeapError" [.type "ValueError"] [.ref 24, .type "ValueError", .type "Exception", .type "BaseException", .type "object"] 23 "LeapError" true [] [.ref 37, .ref 49] false none false)) #[some (.ref 15), none, some (.str "LeapError" 189), some (.str "LeapError" 197), some (.builtin "ValueError.__new__"), some (.bool true)]),
  (30, .mk (.type "dict") none (.dict #[en P "__module__" 214 (.str "leaperwalk.errors" 187), en P "__qualname__" 216 (.str "BadFloor" 215), en P "__firstlineno__" 218 (.int 4 217), en P "__static_attributes__" 219 (.ref 35)] 4) #[]),
  (36, .mk (.type "dict") none (.dict #[en P "__module__" 214 (.str "leaperwalk.errors" 187), en P "__firstlineno__" 218 (.int 4 217), en P "__static_attributes__" 219 (.ref 35), en P "__doc__" 220 .none] 2) #[]),
  (37, .mk (.type "type") none (.cls (.mk "BadFloor" [.ref 24] [.ref 37, .ref 24, .type "ValueError", .type "Exception", .type "BaseException", .type "object"] 36 "BadFloor" true [] [] false none false)) #[some (.ref 28), none, some (.str "BadFloor" 207), some (.str "BadFloor" 215), some (.builtin "ValueError.__new__"), some (.bool true)]),
  (42, .mk (.type "dict") none (.dict #[en P "__module__" 230 (.str "leaperwalk.errors" 187), en P "__qualname__" 232 (.str "BadText" 231), en P "__firstlineno__" 234 (.int 6 233), en P "__static_attributes__" 235 (.ref 47)] 4) #[]),
  (48, .mk (.type "dict") none (.dict #[en P "__module__" 230 (.str "leaperwalk.errors" 187), en P "__firstlineno__" 234 (.int 6 233), en P "__static_attributes__" 235 (.ref 47), en P "__doc__" 236 .none] 2) #[]),
  (49, .mk (.type "type") none (.cls (.mk "BadText" [.ref 24] [.ref 49, .ref 24, .type "ValueError", .type "Exception", .type "BaseException", .type "object"] 48 "BadText" true [] [] false none false)) #[some (.ref 40), none, some (.str "BadText" 223), some (.str "BadText" 231), some (.builtin "ValueError.__new__"), some (.bool true)]),
  (57, co "is_whole" 245 11 3 52 251),
  (58, fo 7 "is_whole" "leaperwalk.floors" 239 57),
  (64, co "is_couple" 254 15 1 59 258),
  (65, fo 8 "is_couple" "leaperwalk.floors" 239 64),
  (71, co "is_cell" 261 17 1 66 265),
  (72, fo 9 "is_cell" "leaperwalk.floors" 239 71),
  (76, cn "is_rising" 268 19 1 73 271),
  (77, fo 10 "is_rising" "leaperwalk.floors" 239 76),
  (81, cn "is_floor" 274 21 1 78 277),
  (82, fo 11 "is_floor" "leaperwalk.floors" 239 81),
  (88, co "checked" 280 25 1 83 284),
  (89, fo 12 "checked" "leaperwalk.floors" 239 88),
  (93, cn "shown_line" 289 30 3 90 292),
  (94, fo 14 "shown_line" "leaperwalk.texts" 287 93),
  (98, cn "shown" 295 32 1 95 298),
  (99, fo 15 "shown" "leaperwalk.texts" 287 98),
  (105, co "cells_in" 301 36 1 100 310),
  (106, fo 16 "cells_in" "leaperwalk.texts" 287 105),
  (112, co "read" 313 43 1 107 318),
  (113, fo 17 "read" "leaperwalk.texts" 287 112),
  (119, co "_law_cell" 323 51 2 114 328),
  (120, fo 19 "_law_cell" "law_leaperwalk_k19_spoilt_texts" 321 119),
  (126, co "_law_mix" 331 55 3 121 337),
  (127, fo 20 "_law_mix" "law_leaperwalk_k19_spoilt_texts" 321 126),
  (133, co "_law_floor" 340 57 3 128 356),
  (134, fo 21 "_law_floor" "law_leaperwalk_k19_spoilt_texts" 321 133),
  (140, co "_law_refused" 359 73 1 135 363),
  (141, fo 22 "_law_refused" "law_leaperwalk_k19_spoilt_texts" 321 140),
  (147, co "_law_by_base" 366 79 1 142 371),
  (148, fo 23 "_law_by_base" "law_leaperwalk_k19_spoilt_texts" 321 147),
  (152, cn "_law_due" 374 85 1 149 377),
  (153, fo 24 "_law_due" "law_leaperwalk_k19_spoilt_texts" 321 152),
  (159, co "_law_bad" 380 97 2 154 390),
  (160, fo 25 "_law_bad" "law_leaperwalk_k19_spoilt_texts" 321 159),
  (164, cn "law" 393 114 1 161 396),
  (165, fo 26 "law" "law_leaperwalk_k19_spoilt_texts" 321 164)]
noncomputable def HA : List Addr := [3, 17, 23, 24, 30, 36, 37, 42, 48, 49, 57, 58, 64, 65, 71, 72, 76, 77, 81, 82, 88, 89, 93, 94, 98, 99, 105, 106, 112, 113, 119, 120, 126, 127, 133, 134, 140, 141, 147, 148, 152, 153, 159, 160, 164, 165]
noncomputable def HQ : Program := view PySem.Challenge.pw_leaperwalk_k19_spoilt_texts [1, 2, 3, 5, 6, 7, 8, 9, 10, 11, 12, 14, 15, 16, 17, 19, 20, 21, 22, 23, 24, 25, 26]
theorem zkP : ∀ P, HA = (HK P).map (·.1) := fun P => by kernel_rfl
noncomputable def HH : Hook := kHook HK HA zkP
set_option maxHeartbeats 0 in
theorem zkQ : LeftO PySem.Challenge.pw_leaperwalk_k19_spoilt_texts HQ [] (fun s => xlAt HQ [] s && recOk (RowW.records (OpenRow.toRowW (OpenLaw.row PySem.Challenge.rw_leaperwalk_k19_spoilt_texts))) s) HH.obs HH.val 2526 := by
  intro w
  kernel_rfl
end LK
open PySem PySem.W PyProof.Rows
set_option maxRecDepth 100000 in
set_option maxHeartbeats 0 in
theorem PySem.Challenge.cw_leaperwalk_k19_spoilt_texts_holds : PySem.Challenge.rw_leaperwalk_k19_spoilt_texts.Holds := by
  w_on; o_law
  refine PySem.W.holds_open (XP := XL LK.HQ []) LK.zkQ (Hook.of LK.HH) (Hook.keeps LK.HH) (fun s e => xl_of s (Bool.and_eq_true_iff.mp e).1) XL.keeps (by rfl) (by rfl) (by rfl) (fun s e => recFacts_of (Bool.and_eq_true_iff.mp e).2) (by rfl) (by assumption) (by decide +kernel) ⟨rfl, rfl, rfl, rfl, rfl, by decide +kernel⟩ ?hw ?hc
  case hw => w_witness2
  refine L2.zdG (K := LK.HK) (l := PySem.Challenge.rw_leaperwalk_k19_spoilt_texts) (n := 63) (k := LK.depth) (x := "_law_script") (CX := L2.yv) (sp := fun K => L2.LW.xa K (L2.LW.zn LK.U LK.zp LK.depth) 108 []) rfl (by decide) rfl ⟨rfl, by decide, by decide⟩ (fun w h Y => Y) ?F ?S ?C
  case F =>
    intro w mg fa h KX G hmg
    have l0 : List.lookup 58 (LK.HK w.params) = some (LK.fo 7 "is_whole" "leaperwalk.floors" 239 57) := by kernel_rfl
    have l1 : List.lookup 65 (LK.HK w.params) = some (LK.fo 8 "is_couple" "leaperwalk.floors" 239 64) := by kernel_rfl
    have l2 : List.lookup 72 (LK.HK w.params) = some (LK.fo 9 "is_cell" "leaperwalk.floors" 239 71) := by kernel_rfl
    have l4 : List.lookup 77 (LK.HK w.params) = some (LK.fo 10 "is_rising" "leaperwalk.floors" 239 76) := by kernel_rfl
    have l5 : List.lookup 82 (LK.HK w.params) = some (LK.fo 11 "is_floor" "leaperwalk.floors" 239 81) := by kernel_rfl
    have l6 : List.lookup 89 (LK.HK w.params) = some (LK.fo 12 "checked" "leaperwalk.floors" 239 88) := by kernel_rfl
    have l13 : List.lookup 120 (LK.HK w.params) = some (LK.fo 19 "_law_cell" "law_leaperwalk_k19_spoilt_texts" 321 119) := by kernel_rfl
    have l14 : List.lookup 127 (LK.HK w.params) = some (LK.fo 20 "_law_mix" "law_leaperwalk_k19_spoilt_texts" 321 126) := by kernel_rfl
    have l15 : List.lookup 134 (LK.HK w.params) = some (LK.fo 21 "_law_floor" "law_leaperwalk_k19_spoilt_texts" 321 133) := by kernel_rfl
    have l86 : List.lookup 94 (LK.HK w.params) = some (LK.fo 14 "shown_line" "leaperwalk.texts" 287 93) := by kernel_rfl
    have l87 : List.lookup 99 (LK.HK w.params) = some (LK.fo 15 "shown" "leaperwalk.texts" 287 98) := by kernel_rfl
    have l98 : List.lookup 106 (LK.HK w.params) = some (LK.fo 16 "cells_in" "leaperwalk.texts" 287 105) := by kernel_rfl
    have l99 : List.lookup 113 (LK.HK w.params) = some (LK.fo 17 "read" "leaperwalk.texts" 287 112) := by kernel_rfl
    have l106 : List.lookup 153 (LK.HK w.params) = some (LK.fo 24 "_law_due" "law_leaperwalk_k19_spoilt_texts" 321 152) := by kernel_rfl
    have l107 : List.lookup 160 (LK.HK w.params) = some (LK.fo 25 "_law_bad" "law_leaperwalk_k19_spoilt_texts" 321 159) := by kernel_rfl
    have l108 : List.lookup 165 (LK.HK w.params) = some (LK.fo 26 "law" "law_leaperwalk_k19_spoilt_texts" 321 164) := by kernel_rfl
    have l142 : List.lookup 148 (LK.HK w.params) = some (LK.fo 23 "_law_by_base" "law_leaperwalk_k19_spoilt_texts" 321 147) := by kernel_rfl
    have l143 : List.lookup 141 (LK.HK w.params) = some (LK.fo 22 "_law_refused" "law_leaperwalk_k19_spoilt_texts" 321 140) := by kernel_rfl
    obtain ⟨F, FD, TK, CL, T, e0, hb⟩ := LK.zkO (t0 := 241) (t1 := 243) (C0 := 24) (C1 := 37) (C6 := 49) KX G ⟨by kernel_rfl, l0, by kernel_rfl, by kernel_rfl⟩ ⟨by kernel_rfl, l1, by kernel_rfl, by kernel_rfl⟩ ⟨by kernel_rfl, l2, by kernel_rfl, by kernel_rfl⟩ ⟨by kernel_rfl, l4, by kernel_rfl, by kernel_rfl⟩ ⟨by kernel_rfl, l5, by kernel_rfl, by kernel_rfl⟩ ⟨by kernel_rfl, l6, by kernel_rfl, by kernel_rfl⟩ ⟨by kernel_rfl, l13, by kernel_rfl, by kernel_rfl⟩ ⟨by kernel_rfl, l14, by kernel_rfl, by kernel_rfl⟩ ⟨by kernel_rfl, l15, by kernel_rfl, by kernel_rfl⟩ ⟨by kernel_rfl, l86, by kernel_rfl, by kernel_rfl⟩ ⟨by kernel_rfl, l87, by kernel_rfl, by kernel_rfl⟩ ⟨by kernel_rfl, l98, by kernel_rfl, by kernel_rfl⟩ ⟨by kernel_rfl, l99, by kernel_rfl, by kernel_rfl⟩ ⟨by kernel_rfl, l106, by kernel_rfl, by kernel_rfl⟩ ⟨by kernel_rfl, l107, by kernel_rfl, by kernel_rfl⟩ ⟨by kernel_rfl, l108, by kernel_rfl, by kernel_rfl⟩ ⟨by kernel_rfl, l142, by kernel_rfl, by kernel_rfl⟩ ⟨by kernel_rfl, l143, by kernel_rfl, by kernel_rfl⟩ (by kernel_rfl) (by kernel_rfl) (by kernel_rfl) (by kernel_rfl) (by kernel_rfl) (by kernel_rfl) (by kernel_rfl) (by kernel_rfl) (by kernel_rfl) (by kernel_rfl) (by kernel_rfl) (by kernel_rfl) (by kernel_rfl) (by kernel_rfl) (by kernel_rfl) (by kernel_rfl) (by kernel_rfl) (by kernel_rfl) (by kernel_rfl) (by kernel_rfl) (by kernel_rfl) (by kernel_rfl) (by kernel_rfl)
    have e1 := hmg.symm.trans T.n108.m
    cases e1
    exact ⟨_, hb, fun base _ _ => LK.zkN T LK.depth 108⟩
  case S => exact fun K H a ns hl _ hS => L2.LW.zfy (LK.zh5 ns hl) hS
  case C => exact fun _ _ _ _ z => z
