import PyProof.Rows.All
import Wide.All
import OpenK.AllK
import Wide.FinOn
import Lean
import PyProof.EqAt
import PyProof.EqKinds
import PyProof.TupleCall
import PyProof.SeqI3
import KE.KTupSum
import KE.LcSums
import KE.KDictSum
import KE.KTryMore
import PyProof.ExcBaseAll.ValueError
import OpenK.KOwn
import KE.RegKTryMore
import KE.RegKIsAll
import PyProof.ListMulRoad
import PyProof.Draws
import PyProof.EnumStmt
import PyProof.EnumMake
import PyProof.StrLawsTight
import PyProof.StrLawsChain
import PyProof.Rows.StrNews
import PyProof.Rows.StrJoin2
import PyProof.Rows.EnumRows
import PyProof.FString
import PySem.Challenge.RW_leaperwalk_k21_refusals_stand_apart
set_option Elab.async false
set_option linter.all false
set_option maxRecDepth 100000
theorem jo1 {a b : Type} {x : Option a} {f : a → Option b} {y : b} : x.bind f = some y ↔ ∃ z, x = some z ∧ f z = some y := Option.bind_eq_some_iff
theorem jo2 {a b : Type} {x : Option a} {f : a → b} {y : b} : x.map f = some y ↔ ∃ z, x = some z ∧ f z = y := Option.map_eq_some_iff
set_option Elab.async false
set_option maxRecDepth 100000
namespace L2
open PySem PySem.Spec PyProof.Rows
noncomputable abbrev Key := Sum Int Str
noncomputable def zgx : Key → Value → Bool
  | .inl k, v => Value.isInt k v
  | .inr x, v => Value.isStrOf x v
noncomputable def zsB (w : World) : Key → Int
  | .inl k => hashInt k
  | .inr x => hashStr w x
theorem zaI : ∀ {k : Key} {v : Value}, zgx k v = true → (∃ i t, k = Sum.inl i ∧ v = Value.int i t) ∨ (∃ x t, k = Sum.inr x ∧ v = Value.str x t)
  | .inl i, v, h => by
    obtain ⟨t, e⟩ := Value.isInt_shape (k := i) (v := v) h
    exact .inl ⟨i, t, rfl, e⟩
  | .inr x, v, h => by
    obtain ⟨t, e⟩ := Value.isStrOf_shape (x := x) (v := v) h
    exact .inr ⟨x, t, rfl, e⟩
theorem zg3 (i : Int) (t : Tok) : zgx (.inl i) (.int i t) = true := by simp [zgx, Value.isInt]
theorem zg4 (x : Str) (t : Tok) : zgx (.inr x) (.str x t) = true := by simp [zgx, Value.isStrOf]
theorem zlV (a b : Int) : decide ((Sum.inl a : Key) = Sum.inl b) = (a == b) := by
  by_cases e : a = b
  · subst e; simp
  · have h : ¬ (Sum.inl a : Key) = Sum.inl b := fun q => e (Sum.inl.inj q)
    rw [decide_eq_false h]
    exact (beq_eq_false_iff_ne.mpr e).symm
theorem zlW (a b : Str) : decide ((Sum.inr a : Key) = Sum.inr b) = decide (a = b) := by
  by_cases e : a = b
  · subst e; simp
  · have h : ¬ (Sum.inr a : Key) = Sum.inr b := fun q => e (Sum.inr.inj q)
    rw [decide_eq_false h, decide_eq_false e]
theorem zlX (a : Int) (b : Str) : decide ((Sum.inl a : Key) = Sum.inr b) = false := decide_eq_false (fun q => nomatch q)
theorem zlY (a : Str) (b : Int) : decide ((Sum.inr a : Key) = Sum.inl b) = false := decide_eq_false (fun q => nomatch q)
noncomputable def za6 (prog : Program) (w : World) : PySem.KeyKind prog w Key where
  is := zgx
  hash := zsB w
  inj := fun v a b ha hb => by
    rcases zaI ha with ⟨i, t, rfl, rfl⟩ | ⟨x, t, rfl, rfl⟩
    · rcases zaI hb with ⟨j, u, rfl, e⟩ | ⟨y, u, rfl, e⟩
      · injection e with e1 _; rw [e1]
      · exact nomatch e
    · rcases zaI hb with ⟨j, u, rfl, e⟩ | ⟨y, u, rfl, e⟩
      · exact nomatch e
      · injection e with e1 _; rw [e1]
  byValue := fun k v h => by
    rcases zaI h with ⟨i, t, rfl, rfl⟩ | ⟨x, t, rfl, rfl⟩ <;> rfl
  pyHash := fun hv h => by
    rcases zaI hv with ⟨i, t, rfl, rfl⟩ | ⟨x, t, rfl, rfl⟩
    · exact wpAny_pyHash_int h
    · exact wpAny_pyHash_str h
  eqBool := fun hu hv h => by
    rcases zaI hu with ⟨i, t, rfl, rfl⟩ | ⟨x, t, rfl, rfl⟩
    · rcases zaI hv with ⟨j, u, rfl, rfl⟩ | ⟨y, u, rfl, rfl⟩
      · rw [zlV] at h; exact wpAny_eqBool_int h
      · rw [zlX] at h; exact SeqAt.EqAt.int_str i t y u _ _ _ _ h
    · rcases zaI hv with ⟨j, u, rfl, rfl⟩ | ⟨y, u, rfl, rfl⟩
      · rw [zlY] at h; exact SeqAt.EqAt.str_int x t j u _ _ _ _ h
      · rw [zlW] at h; exact wpAny_eqBool_str h
  «strs» := fun k x t v h => by
    rcases zaI h with ⟨i, u, rfl, e⟩ | ⟨y, u, rfl, e⟩
    · exact nomatch e
    · injection e with e1 _
      subst e1
      cases v <;> rfl
theorem zfu (prog : Program) (w : World) (i : Int) (t : Tok) : (za6 prog w).is (.inl i) (.int i t) = true := zg3 i t
theorem zfv (prog : Program) (w : World) (x : Str) (t : Tok) : (za6 prog w).is (.inr x) (.str x t) = true := zg4 x t
end L2
namespace L2
open PySem PySem.Spec PyProof.Rows
inductive V where
  | non | bl (b : Bool) | int (i : Int) | str (x : Str) | byt (b : Array UInt8) | flt (b : UInt64) | ref (a : Addr) | ty (n : String)
  deriving DecidableEq
noncomputable def RelV : V → Value → Prop
  | .non, u => u = Value.none
  | .bl b, u => u = Value.bool b
  | .int i, u => ∃ t, u = Value.int i t
  | .str x, u => ∃ t, u = Value.str x t
  | .byt b, u => ∃ t, u = Value.bytes b t
  | .flt b, u => ∃ t, u = Value.float b t
  | .ref a, u => u = Value.ref a
  | .ty n, u => u = Value.type n
noncomputable abbrev Vals : List V → List Value → Prop := Paired RelV
theorem Vals.length {xs : List V} {us : List Value} (r : Vals xs us) : xs.length = us.length := Paired.length r
theorem Vals.get : ∀ {xs : List V} {us : List Value} {i : Nat} {x : V}, Vals xs us → xs[i]? = some x → ∃ u, us[i]? = some u ∧ RelV x u
  | _, _, _, _, .nil, e => by simp at e
  | _, _, 0, _, .cons r _, e => by simp at e; subst e; exact ⟨_, rfl, r⟩
  | _, _, i + 1, x, .cons _ t, e => by
    obtain ⟨u, h1, h2⟩ := Vals.get (i := i) (x := x) t (by simpa using e)
    exact ⟨u, by simpa using h1, h2⟩
theorem Vals.set {x : V} {u : Value} (r : RelV x u) : ∀ {xs : List V} {us : List Value} (i : Nat), Vals xs us → Vals (xs.set i x) (us.set i u)
  | _, _, _, .nil => .nil
  | _, _, 0, .cons _ t => .cons r t
  | _, _, i + 1, .cons q t => .cons q (Vals.set r i t)
theorem Vals.append : ∀ {xs ys : List V} {us ws : List Value}, Vals xs us → Vals ys ws → Vals (xs ++ ys) (us ++ ws)
  | _, _, _, _, .nil, s => s
  | _, _, _, _, .cons r t, s => .cons r (Vals.append t s)
theorem Vals.take : ∀ {xs : List V} {us : List Value} (n : Nat), Vals xs us → Vals (xs.take n) (us.take n)
  | _, _, 0, _ => .nil
  | _, _, _ + 1, .nil => .nil
  | _, _, n + 1, .cons r t => .cons r (Vals.take n t)
theorem Vals.drop : ∀ {xs : List V} {us : List Value} (n : Nat), Vals xs us → Vals (xs.drop n) (us.drop n)
  | _, _, 0, r => r
  | _, _, _ + 1, .nil => .nil
  | _, _, n + 1, .cons _ t => Vals.drop n t
noncomputable def RelO : Option V → Option Value → Prop
  | some v, some u => RelV v u
  | none, none => True
  | _, _ => False
noncomputable def KV {κ : Type} : List (κ × V) → List (κ × Value) → Prop := Paired fun (p : κ × V) (q : κ × Value) => p.1 = q.1 ∧ RelV p.2 q.2
noncomputable def kV : Key → V
  | .inl i => .int i
  | .inr x => .str x
inductive HO where
  | lst (xs : List V)
  | tup (xs : List V)
  | dK (kvs : List (Key × V)) | dT (kvs : List (List Key × V))
  | set (S : Int → Bool) (n : Nat)
  | ins (C dx : Addr) (fs : List (Str × V))
  | own (x : Addr)
  | xd (fs : List (Str × V))
  | met (f x : Addr)
  | rng (lo hi : Int)
  | frz (o : Obj) (u : HO)
  | tbl (ps : Array Value)
  | ext (φ : Heap → Prop)
noncomputable abbrev Hp := Addr → Option HO
noncomputable def upd (H : Hp) (a : Addr) (o : HO) : Hp := fun b => if b = a then some o else H b
theorem zaL {H : Hp} {a : Addr} {o : HO} : upd H a o a = some o := by unfold upd; rw [if_pos rfl]
theorem zau {H : Hp} {a b : Addr} {o : HO} (h : b ≠ a) : upd H a o b = H b := by unfold upd; rw [if_neg h]
theorem za5 {H : Hp} {a b : Addr} {o : HO} (h : H a = some o) (h' : H b = none) : a ≠ b := by
  intro e; subst e; rw [h] at h'; cases h'
section
variable (P : Program) (w : World)
noncomputable def ObjOk (H : Hp) (h : Heap) (a : Addr) : HO → Prop
  | .lst xs => xs.length ≤ sizeLine ∧ ∃ (its : List Value) (n : Nat), Vals xs its ∧ h.get? a = some { cls := .type "list", data := .seq its.toArray n }
  | .tup xs => xs.length ≤ sizeLine ∧ ∃ its : List Value, Vals xs its ∧ IsTup h a its.toArray
  | .dK kvs => kvs.length ≤ sizeLine ∧ (a == sysModules) = false ∧ ∃ vs, KV kvs vs ∧ h.DictOf (za6 P w) a vs
  | .dT kvs => kvs.length ≤ sizeLine ∧ (a == sysModules) = false ∧ ∃ xs : List (List Key × Addr × Value),
      Paired (fun (p : List Key × V) (q : List Key × Addr × Value) => p.1 = q.1 ∧ H q.2.1 = some (.tup (p.1.map kV)) ∧ RelV p.2 q.2.2) kvs xs ∧
      ∃ o es ep, h.get? a = some o ∧ o.ExactDict ∧ o.data = .dict es ep ∧ es.toList = xs.map (entryOfKey (tupleKind (za6 P w))) ∧ (xs.map (·.1)).Nodup
  | .set S n => h.SetOf (intKind P w) a S n
  | .ins C dx fs => H dx = some (.own a) ∧ fs.length ≤ 1000 ∧ dx ≠ a ∧ h.get? a = some (PySem.W.instObj C dx) ∧
      ∃ mA, h.Ns1 dx mA ∧ (∀ f, RelO (fs.lookup f) (mA f)) ∧ PySem.Within mA (fs.map (·.1))
  | .own _ => ∃ o, h.get? a = some o
  | .xd fs => ∃ mA, h.Ns1 a mA ∧ ∀ f, RelO (fs.lookup f) (mA f)
  | .rng lo hi => ∃ t u v, h.get? a = some { cls := .type "range", data := .fields #[.int lo t, .int hi u, .int 1 v] }
  | .frz o u => h.get? a = some o ∧ ObjOk H h a u
  | .tbl ps => h.get? a = some { cls := .none, data := .fields ps }
  | .met f x => h.get? a = some (PySem.W.methodObj (.ref f) (.ref x))
  | .ext φ => φ h ∧ (∃ o, h.get? a = some o) ∧ ∀ h1 h2 : Heap, φ h1 → (∀ o, h1.get? a = some o → h2.get? a = some o) → φ h2
noncomputable def HOk (H : Hp) (h : Heap) : Prop := ∀ a o, H a = some o → ObjOk P w H h a o
end
section
variable {P : Program} {w : World} {H H' : Hp} {h h' : Heap} {a : Addr} {o : HO}
theorem ObjOk.lt (x : ObjOk P w H h a o) : a < h.objs.size := by
  cases o with
  | lst xs => obtain ⟨_, _, _, _, e⟩ := x; exact Heap.lt_size e
  | tup xs => obtain ⟨_, _, _, p⟩ := x; exact p.lt
  | dK kvs => obtain ⟨_, _, _, _, o, _, _, e, _⟩ := x; exact Heap.lt_size e
  | dT kvs => obtain ⟨_, _, _, _, o, _, _, e, _⟩ := x; exact Heap.lt_size e
  | set S n => obtain ⟨o, _, _, _, e, _⟩ := x; exact Heap.lt_size e
  | ins C dx fs => obtain ⟨_, _, _, e, _⟩ := x; exact Heap.lt_size e
  | own y => obtain ⟨_, e⟩ := x; exact Heap.lt_size e
  | xd fs => obtain ⟨_, ⟨_, _, _, e, _⟩, _⟩ := x; exact Heap.lt_size e
  | rng lo hi => obtain ⟨_, _, _, e⟩ := x; exact Heap.lt_size e
  | frz ob u => obtain ⟨e, _⟩ := x; exact Heap.lt_size e
  | tbl ps => exact Heap.lt_size (show h.get? a = some _ from x)
  | met f y => exact Heap.lt_size (show h.get? a = some _ from x)
  | ext φ => obtain ⟨_, ⟨_, e⟩, _⟩ := x; exact Heap.lt_size e
theorem Paired.mapP {α β : Type} {F G : α → β → Prop} : ∀ {l₁ : List α} {l₂ : List β}, Paired F l₁ l₂ → (∀ a b, F a b → G a b) → Paired G l₁ l₂
  | _, _, .nil, _ => .nil
  | _, _, .cons r t, f => .cons (f _ _ r) (Paired.mapP t f)
theorem ObjOk.stay (x : ObjOk P w H h a o) (k : ∀ b u, (b = a ∨ H b = some (.own a)) → h.get? b = some u → h'.get? b = some u)
    (ho : ∀ b, H b = some (.own a) → H' b = some (.own a)) (ht : ∀ b xs, H b = some (.tup xs) → H' b = some (.tup xs)) : ObjOk P w H' h' a o := by
  induction o with
  | lst xs => obtain ⟨z, its, n, r, e⟩ := x; exact ⟨z, its, n, r, k _ _ (.inl rfl) e⟩
  | tup xs => obtain ⟨z, its, r, ob, e, c⟩ := x; exact ⟨z, its, r, ob, k _ _ (.inl rfl) e, c⟩
  | dK kvs => obtain ⟨z, y, vs, r, ob, es, ep, e, c⟩ := x; exact ⟨z, y, vs, r, ob, es, ep, k _ _ (.inl rfl) e, c⟩
  | dT kvs =>
    obtain ⟨z, y, xs, r, ob, es, ep, e, c⟩ := x
    exact ⟨z, y, xs, Paired.mapP r fun p q z => ⟨z.1, ht _ _ z.2.1, z.2.2⟩, ob, es, ep, k _ _ (.inl rfl) e, c⟩
  | set S n => obtain ⟨ob, es, ep, t, e, c⟩ := x; exact ⟨ob, es, ep, t, k _ _ (.inl rfl) e, c⟩
  | ins C dx fs =>
    obtain ⟨d, z, ne, e, mA, ⟨od, es, ep, e2, c⟩, r⟩ := x
    exact ⟨ho _ d, z, ne, k _ _ (.inl rfl) e, mA, ⟨od, es, ep, k _ _ (.inr d) e2, c⟩, r⟩
  | own y => obtain ⟨ob, e⟩ := x; exact ⟨ob, k _ _ (.inl rfl) e⟩
  | xd fs => obtain ⟨mA, ⟨od, es, ep, e, c⟩, r⟩ := x; exact ⟨mA, ⟨od, es, ep, k _ _ (.inl rfl) e, c⟩, r⟩
  | rng lo hi => obtain ⟨t, u, v, e⟩ := x; exact ⟨t, u, v, k _ _ (.inl rfl) e⟩
  | frz ob u ih => obtain ⟨e, q⟩ := x; exact ⟨k _ _ (.inl rfl) e, ih q⟩
  | tbl ps =>
    have e : h.get? a = some { cls := .none, data := .fields ps } := x
    show h'.get? a = some { cls := .none, data := .fields ps }
    exact k a _ (.inl rfl) e
  | met f y =>
    have e : h.get? a = some (PySem.W.methodObj (.ref f) (.ref y)) := x
    show h'.get? a = some (PySem.W.methodObj (.ref f) (.ref y))
    exact k a _ (.inl rfl) e
  | ext φ => obtain ⟨p, ⟨o, e⟩, st⟩ := x; exact ⟨st _ _ p fun o q => k _ _ (.inl rfl) q, ⟨o, k _ _ (.inl rfl) e⟩, st⟩
theorem HOk.lt (x : HOk P w H h) (e : H a = some o) : a < h.objs.size := (x a o e).lt
theorem HOk.fresh (x : HOk P w H h) (e : h.objs.size ≤ a) : H a = none := by
  cases q : H a with
  | none => rfl
  | some u => exact absurd (Nat.lt_of_lt_of_le (x.lt q) e) (Nat.lt_irrefl _)
theorem HOk.kept (x : HOk P w H h) (k : ∀ b u, h.get? b = some u → h'.get? b = some u) : HOk P w H h' := fun a o e =>
  (x a o e).stay (fun b u _ q => k b u q) (fun _ q => q) fun _ _ q => q
theorem HOk.laid (x : HOk P w H h) (k : ∀ b u, h.get? b = some u → h'.get? b = some u) (hp : h.objs.size ≤ a) (new : ObjOk P w (upd H a o) h' a o) : HOk P w (upd H a o) h' := fun b u e => by
  have hn := x.fresh hp
  by_cases hb : b = a
  · subst hb; rw [zaL] at e; cases e; exact new
  · rw [zau hb] at e
    exact (x b u e).stay (fun c v _ q => k c v q) (fun c q => by rw [zau (za5 q hn)]; exact q) fun c xs q => by rw [zau (za5 q hn)]; exact q
end
noncomputable def Rd (H : Hp) (a : Addr) (u : HO) : Prop := H a = some u ∨ ∃ o, H a = some (.frz o u)
theorem Rd.of {H : Hp} {a : Addr} {u : HO} (h : H a = some u) : Rd H a u := .inl h
theorem Rd.ok {P : Program} {w : World} {H : Hp} {h : Heap} {a : Addr} {u : HO} (r : Rd H a u) (x : HOk P w H h) : ObjOk P w H h a u := by
  rcases r with r | ⟨o, r⟩
  · exact x a u r
  · obtain ⟨_, q⟩ := x a _ r
    exact q
noncomputable def Mut : Option HO → Prop
  | some (.lst _) => True
  | some (.dK _) => True
  | some (.dT _) => True
  | some (.set _ _) => True
  | some (.ins _ _ _) => True
  | some (.ext _) => True
  | _ => False
section
variable {P : Program} {w : World} {H : Hp} {h h' : Heap} {x e : Addr} {o' : HO}
theorem HOk.write (ok : HOk P w H h) (mu : Mut (H x)) (he : e = x ∨ H e = some (.own x)) (k : ∀ b u, b ≠ e → h.get? b = some u → h'.get? b = some u) (heo : ∃ u, h'.get? e = some u)
    (new : ObjOk P w (upd H x o') h' x o') : HOk P w (upd H x o') h' := fun b u q => by
  have nown : ∀ c y, H c = some (.own y) → c ≠ x := fun c y r z => by subst z; rw [r] at mu; exact mu
  have ntup : ∀ c xs, H c = some (.tup xs) → c ≠ x := fun c xs r z => by subst z; rw [r] at mu; exact mu
  by_cases hb : b = x
  · subst hb; rw [zaL] at q; cases q; exact new
  · rw [zau hb] at q
    by_cases hbe : b = e
    · have q' : H b = some (.own x) := by
        rcases he with z | z
        · exact absurd (hbe.trans z) hb
        · rw [hbe]; exact z
      rw [q] at q'; cases q'
      obtain ⟨v, hv⟩ := heo
      exact ⟨v, by rw [hbe]; exact hv⟩
    · refine (ok b u q).stay (fun c v hc r => k c v ?_ r) (fun c r => by rw [zau (nown c b r)]; exact r) fun c xs r => by rw [zau (ntup c xs r)]; exact r
      rcases hc with rfl | hc
      · exact hbe
      · rintro rfl
        rcases he with z | z
        · exact nown c b hc z
        · rw [hc] at z; cases z; exact hb rfl
end
structure Un (fs ex : List Addr) (H H' : Hp) (h h' : Heap) : Prop where
  keep : ∀ b o, h.get? b = some o → H b = none → b ∉ fs → b ∉ ex → h'.get? b = some o
  slot : ∀ b o, h.get? b = some o → H b = none → b ∈ fs → b ∉ ex → ∃ sl, h'.get? b = some { o with slots := sl }
  free : ∀ b o, h.get? b = some o → H b = none → b ∉ ex → H' b = none
  there : ∀ b o, h.get? b = some o → b ∉ ex → ∃ o', h'.get? b = some o'
  tups : ∀ b xs, H b = some (.tup xs) → H' b = some (.tup xs)
  frzs : ∀ b o u, H b = some (.frz o u) → H' b = some (.frz o u)
  tbls : ∀ b ps, H b = some (.tbl ps) → ∃ more, H' b = some (.tbl (ps ++ more))
section
variable {fs fs' ex ex' : List Addr} {H H1 H2 : Hp} {h h1 h2 h' : Heap} {a x e : Addr} {o : HO}
theorem Un.any (u : Un fs ex H H1 h h1) {b : Addr} {ob : Obj} (q : h.get? b = some ob) (n : H b = none) (hx : b ∉ ex) : ∃ sl, h1.get? b = some { ob with slots := sl } := by
  by_cases hb : b ∈ fs
  · exact u.slot b ob q n hb hx
  · exact ⟨ob.slots, u.keep b ob q n hb hx⟩
theorem Un.trans (a : Un fs ex H H1 h h1) (b : Un fs ex H1 H2 h1 h2) : Un fs ex H H2 h h2 where
  keep := fun c ob q n hc hx => b.keep c ob (a.keep c ob q n hc hx) (a.free c ob q n hx) hc hx
  slot := fun c ob q n hc hx => by
    obtain ⟨sl, e1⟩ := a.slot c ob q n hc hx
    obtain ⟨sl', e2⟩ := b.slot c _ e1 (a.free c ob q n hx) hc hx
    exact ⟨sl', e2⟩
  free := fun c ob q n hx => by
    obtain ⟨o', e1⟩ := a.there c ob q hx
    exact b.free c o' e1 (a.free c ob q n hx) hx
  there := fun c ob q hx => by
    obtain ⟨o', e1⟩ := a.there c ob q hx
    exact b.there c o' e1 hx
  tups := fun c xs q => b.tups c xs (a.tups c xs q)
  frzs := fun c ob xs q => b.frzs c ob xs (a.frzs c ob xs q)
  tbls := fun c ps q => by
    obtain ⟨m1, e1⟩ := a.tbls c ps q
    obtain ⟨m2, e2⟩ := b.tbls c _ e1
    exact ⟨m1 ++ m2, by rw [e2, Array.append_assoc]⟩
theorem Un.kept (k : ∀ b u, h.get? b = some u → h'.get? b = some u) : Un fs ex H H h h' :=
  ⟨fun b ob q _ _ _ => k b ob q, fun b ob q _ _ _ => ⟨ob.slots, k b ob q⟩, fun _ _ _ n _ => n, fun b ob q _ => ⟨ob, k b ob q⟩, fun _ _ q => q, fun _ _ _ q => q, fun _ ps q => ⟨#[], by rw [q]; simp⟩⟩
theorem Un.refl : Un fs ex H H h h := Un.kept fun _ _ q => q
theorem Un.laid (k : ∀ b u, h.get? b = some u → h'.get? b = some u) (hp : h.objs.size ≤ a) (hn : H a = none) : Un fs ex H (upd H a o) h h' where
  keep := fun b u q _ _ _ => k b u q
  slot := fun b u q _ _ _ => ⟨u.slots, k b u q⟩
  free := fun b u q n _ => by rw [zau (Nat.ne_of_lt (Nat.lt_of_lt_of_le (Heap.lt_size q) hp))]; exact n
  there := fun b u q _ => ⟨u, k b u q⟩
  tups := fun b xs q => by rw [zau (za5 q hn)]; exact q
  frzs := fun b u xs q => by rw [zau (za5 q hn)]; exact q
  tbls := fun b ps q => ⟨#[], by rw [zau (za5 q hn), q]; simp⟩
theorem Un.write (mu : Mut (H x)) (he : e = x ∨ H e = some (.own x)) (k : ∀ b u, b ≠ e → h.get? b = some u → h'.get? b = some u) (heo : ∃ u, h'.get? e = some u) : Un fs ex H (upd H x o) h h' := by
  have hx : ∀ b, H b = none → b ≠ x := fun b n z => by subst z; rw [n] at mu; exact mu
  have hb : ∀ b, H b = none → b ≠ e := fun b n z => by
    subst z
    rcases he with r | r
    · exact hx b n r
    · rw [n] at r; cases r
  have hm : ∀ b u, H b = some u → ¬ Mut (some u) → b ≠ x := fun b u q nm z => by subst z; rw [q] at mu; exact nm mu
  refine ⟨fun b u q n _ _ => k b u (hb b n) q, fun b u q n _ _ => ⟨u.slots, k b u (hb b n) q⟩, fun b u q n _ => by rw [zau (hx b n)]; exact n, fun b u q _ => ?_,
    fun b xs q => by rw [zau (hm b _ q fun z => z)]; exact q, fun b u xs q => by rw [zau (hm b _ q fun z => z)]; exact q, fun b ps q => ⟨#[], by rw [zau (hm b _ q fun z => z), q]; simp⟩⟩
  by_cases hbe : b = e
  · subst hbe; exact heo
  · exact ⟨u, k b u hbe q⟩
end
noncomputable def trk (h : Heap) (H : Hp) : List Addr := (List.range h.objs.size).filter fun a => (H a).isSome
noncomputable def ziB (h : Heap) (H : Hp) : Heap := PySem.W.hideAll h (trk h H)
theorem zg5 (h : Heap) (H : Hp) : (ziB h H).objs.size = h.objs.size := PySem.W.hideAll_size _ _
theorem ziC {h : Heap} {H : Hp} {b : Addr} {o : Obj} (e : h.get? b = some o) (n : H b = none) : (ziB h H).get? b = some o :=
  PySem.W.hideAll_get _ e fun hm => by
    have q : (H b).isSome = true := (List.mem_filter.mp hm).2
    rw [n] at q; simp at q
theorem zkh {h : Heap} {H : Hp} {b : Addr} {o : Obj} (e : (ziB h H).get? b = some o) : h.get? b = some o ∧ H b = none := by
  have e' : h.get? b = some o := PySem.W.of_hideAll (trk h H) e
  refine ⟨e', ?_⟩
  cases q : H b with
  | none => rfl
  | some x =>
    have hm : b ∈ trk h H := List.mem_filter.mpr ⟨List.mem_range.mpr (Heap.lt_size e'), by simp [q]⟩
    have z : (ziB h H).get? b = none := PySem.W.hideAll_none (trk h H) hm
    rw [z] at e; cases e
noncomputable def zki (g h : Heap) (L : Addr) : List (Addr × Obj) := (List.range h.objs.size).filterMap fun a => if a = L ∨ (g.get? a).isSome = true then none else (h.get? a).map fun o => (a, o)
noncomputable def zbX (g h : Heap) (L d : Addr) : List (Addr × Obj) := (zki g h L).filter fun p => decide (p.1 ≠ d)
end L2
namespace L2
open PySem PySem.Spec PyProof.Rows
structure Mod (K : PySem.W.Frag) (mg : Str → Option Value) (base : Heap) : Prop where
  kin : K.In base
  glob : base.Ns mainGlobals mg
  blt : ∃ mb, base.Ns builtinsNs mb ∧ ∀ x : Str, x ≠ "__name__" → mb x = bootBuiltins x
  nolimit : base.NoLimit
structure Cx where
  prog : Program
  w : World
  K : PySem.W.Frag
  mg : Str → Option Value
  base : Heap
  A : Around
  N : List Str
  s₀ : Shared
  H₀ : Hp
  env : Env
  outer : List Env
  stack : List Env
  ex : List Addr
  fn : Str → Bool
  calm : Bool
  pn : List (Addr × Obj)
  xe : Value → Shared → Prop
noncomputable def frs (l : List Env) : List Addr := l.filterMap (·.frame)
noncomputable abbrev Cx.fs (X : Cx) : List Addr := frs X.outer
noncomputable def Vis (sc : Scope) (x : Str) : Prop := sc.names.lookup x = some .local ∨ sc.names.lookup x = some .cell ∨ sc.names.lookup x = some .free
noncomputable def Loc (sc : Scope) (x : Str) : Prop := sc.names.lookup x = some .local ∨ sc.names.lookup x = some .cell
noncomputable def zrP (env : Env) (h : Heap) (m : Str → Option Value) (x : Str) (u : Value) : Prop :=
  (env.kindOf x = some .local ∧ m x = some u) ∨ ((env.kindOf x = some .cell ∨ env.kindOf x = some .free) ∧ ∃ c, env.cells.lookup x = some c ∧ h.IsCell c (some u))
structure Cx.Ok (X : Cx) : Prop where
  mod : Mod X.K X.mg X.base
  kind : X.env.scope.kind = .function
  glob : X.env.globals = mainGlobals
  blt : X.env.builtins = builtinsNs
  above : X.s₀.heap.objs.size ≤ X.env.locals
  inj : ∀ x y c, X.env.cells.lookup x = some c → X.env.cells.lookup y = some c → x = y
  has : ∀ x, (X.env.kindOf x = some .cell ∨ X.env.kindOf x = some .free) → ∃ c, X.env.cells.lookup x = some c
  cab : ∀ x c, X.fn x = true → X.env.cells.lookup x = some c → X.s₀.heap.objs.size ≤ c
  hd : X.calm = true → X.A.handled = none
  frames : X.A.frames = some X.stack
  stk : X.stack = X.outer ∨ (X.stack = X.env :: X.outer ∧ X.env.frame = some X.env.locals)
  exf : ∀ b ∈ X.ex, b ≠ X.env.locals ∧ ∀ x c, X.env.cells.lookup x = some c → c ≠ b
  bs : ∀ b o, X.base.get? b = some o → X.s₀.heap.get? b = some o ∧ X.H₀ b = none
  bsz : X.base.objs.size ≤ X.s₀.heap.objs.size
  noex : ∀ b o, X.base.get? b = some o → b ∉ X.ex
  exfs : ∀ b ∈ X.ex, b ∉ X.fs
  funs : X.s₀.heap.FunFrames X.base X.outer
  frf : ∀ b ∈ X.fs, X.H₀ b = none
structure Inv (X : Cx) (pins : List (Addr × Obj)) (σ : List (Option V)) (H : Hp) (s : Shared) : Prop where
  ok : X.Ok
  os : s.os = X.s₀.os
  bare : AllBare s.gens
  base : Un X.fs X.ex X.H₀ H X.s₀.heap s.heap
  loc : ∃ m, s.heap.Ns X.env.locals m ∧ ∀ (i : Nat) (x : Str) (v : V), X.N[i]? = some x → σ[i]? = some (some v) → Vis X.env.scope x → ∃ u, RelV v u ∧ zrP X.env s.heap m x u
  cell : ∀ x c, X.env.cells.lookup x = some c → ∃ v, s.heap.IsCell c v
  free : H X.env.locals = none
  freeC : ∀ x c, X.env.cells.lookup x = some c → H c = none
  pin : ∀ p ∈ X.pn ++ pins, s.heap.get? p.1 = some p.2 ∧ H p.1 = none ∧ p.1 ≠ X.env.locals ∧ p.1 ∉ X.fs ∧ ∀ v, p.2.data ≠ .cell v
  hok : HOk X.prog X.w H s.heap
  len : σ.length = X.N.length
section
variable {X : Cx} {pins : List (Addr × Obj)} {σ : List (Option V)} {H H' : Hp} {s : Shared} {h' : Heap}
theorem Cx.Ok.nofr (ok : X.Ok) {b : Addr} {o : Obj} (e : X.base.get? b = some o) : b ∉ X.fs := fun hb => by
  have := (ok.funs.mem hb).1
  rw [e] at this; cases this
theorem Inv.bs (I : Inv X pins σ H s) : ∀ b o, X.base.get? b = some o → s.heap.get? b = some o ∧ H b = none := fun b o e =>
  ⟨I.base.keep b o (I.ok.bs b o e).1 (I.ok.bs b o e).2 (I.ok.nofr e) (I.ok.noex b o e), I.base.free b o (I.ok.bs b o e).1 (I.ok.bs b o e).2 (I.ok.noex b o e)⟩
theorem Inv.bk (I : Inv X pins σ H s) : ∀ b o, X.base.get? b = some o → s.heap.get? b = some o := fun b o e => (I.bs b o e).1
theorem Inv.mod (I : Inv X pins σ H s) : Mod X.K X.mg X.base := I.ok.mod
theorem Inv.kIn (I : Inv X pins σ H s) : X.K.In s.heap := I.ok.mod.kin.keeps I.bk
theorem Inv.nolimit (I : Inv X pins σ H s) : s.heap.NoLimit := I.ok.mod.nolimit.keeps I.bk
theorem Inv.fr (I : Inv X pins σ H s) : ∃ m, Fr X.base X.env.locals s.heap m :=
  let ⟨m, hn, _⟩ := I.loc
  ⟨m, hn, I.bk, Nat.le_trans I.ok.bsz I.ok.above⟩
theorem Inv.lt (I : Inv X pins σ H s) : X.env.locals < s.heap.objs.size := let ⟨_, hn, _⟩ := I.loc; hn.lt
theorem Inv.sz (I : Inv X pins σ H s) : X.s₀.heap.objs.size ≤ s.heap.objs.size := Nat.le_trans I.ok.above (Nat.le_of_lt I.lt)
theorem Inv.nofs (I : Inv X pins σ H s) {a : Addr} (h : s.heap.objs.size ≤ a) : a ∉ X.fs := fun hb => by
  obtain ⟨_, o, ho, _⟩ := I.ok.funs.mem hb
  exact absurd (Nat.lt_of_lt_of_le (Heap.lt_size ho) (Nat.le_trans I.sz h)) (Nat.lt_irrefl _)
theorem Inv.cne (I : Inv X pins σ H s) : ∀ x c, X.env.cells.lookup x = some c → c ≠ X.env.locals := fun x c e z => by
  obtain ⟨v, o, ho, hd⟩ := I.cell x c e
  obtain ⟨m, ⟨o', es, ep, ho', hd', _⟩, _⟩ := I.loc
  rw [z, ho'] at ho; cases ho; rw [hd'] at hd; cases hd
theorem Inv.funs (I : Inv X pins σ H s) : s.heap.FunFrames X.base X.outer := by
  have all : ∀ (l : List Env), (∀ b ∈ frs l, b ∈ X.fs) → X.s₀.heap.FunFrames X.base l → s.heap.FunFrames X.base l := by
    intro l
    induction l with
    | nil => intro _ _; trivial
    | cons env r ih =>
      intro hs hl
      obtain ⟨hk, ⟨L, o, hf, hn, ho, hd⟩, hr⟩ := hl
      have hL : L ∈ X.fs := hs L (by unfold frs; rw [List.filterMap_cons, hf]; exact List.mem_cons_self)
      obtain ⟨sl, e⟩ := I.base.slot L o ho (I.ok.frf L hL) hL fun z => I.ok.exfs L z hL
      exact ⟨hk, ⟨L, _, hf, hn, e, hd⟩, ih (fun b hb => hs b (by unfold frs; rw [List.filterMap_cons, hf]; exact List.mem_cons_of_mem _ hb)) hr⟩
  exact all X.outer (fun _ hb => hb) I.ok.funs
theorem Inv.stack (I : Inv X pins σ H s) : s.heap.FunFrames X.base X.stack := by
  rcases I.ok.stk with e | ⟨e, hf⟩
  · rw [e]; exact I.funs
  · rw [e]
    obtain ⟨m, hn, _⟩ := I.loc
    refine .cons (by rw [I.ok.kind]; decide) hf hn ?_ I.funs
    exact Heap.get?_none_of_le (Nat.le_trans I.ok.bsz I.ok.above)
theorem Inv.stkSub (I : Inv X pins σ H s) : ∀ b ∈ frs X.stack, b ∈ X.env.locals :: X.fs := fun b hb => by
  rcases I.ok.stk with e | ⟨e, hf⟩
  · rw [e] at hb; exact List.mem_cons_of_mem _ hb
  · rw [e] at hb
    unfold frs at hb
    rw [List.filterMap_cons, hf] at hb
    exact hb
theorem Inv.stkFree (I : Inv X pins σ H s) : ∀ b ∈ frs X.stack, H b = none := fun b hb => by
  rcases List.mem_cons.mp (I.stkSub b hb) with e | hb
  · rw [e]; exact I.free
  · obtain ⟨_, o, ho, _⟩ := I.ok.funs.mem hb
    exact I.base.free b o ho (I.ok.frf b hb) fun z => I.ok.exfs b z hb
theorem Inv.step {g' : Array GenState} {t' : Nat} {d' : Drawn} {ch : List Addr} (I : Inv X pins σ H s)
    (hch : ∀ b ∈ ch, (b ∈ X.ex ∨ X.s₀.heap.objs.size ≤ b) ∧ b ≠ X.env.locals ∧ (∀ x c, X.env.cells.lookup x = some c → c ≠ b) ∧ ∀ p ∈ X.pn ++ pins, p.1 ≠ b)
    (keep : ∀ b o, b ≠ X.env.locals → b ∉ X.fs → b ∉ ch → s.heap.get? b = some o → H b = none → h'.get? b = some o)
    (slot : ∀ b o, b ≠ X.env.locals → b ∈ X.fs → b ∉ ch → s.heap.get? b = some o → H b = none → ∃ sl, h'.get? b = some { o with slots := sl }) (free : ∀ b o, b ∉ ch → s.heap.get? b = some o → H b = none → H' b = none)
    (there : ∀ b o, b ∉ ch → s.heap.get? b = some o → ∃ o', h'.get? b = some o')
    (tups : ∀ b xs, H b = some (.tup xs) → H' b = some (.tup xs)) (frzs : ∀ b o u, H b = some (.frz o u) → H' b = some (.frz o u)) (tbls : ∀ b ps, H b = some (.tbl ps) → ∃ more, H' b = some (.tbl (ps ++ more)))
    (ns : ∀ m, s.heap.Ns X.env.locals m → h'.Ns X.env.locals m) (hok : HOk X.prog X.w H' h') (hg : AllBare g') :
    Inv X pins σ H' { s with heap := h', gens := g', drawn := d', toks := t' } := by
  have neL : ∀ b o, X.s₀.heap.get? b = some o → b ≠ X.env.locals := fun b o e => Nat.ne_of_lt (Nat.lt_of_lt_of_le (Heap.lt_size e) I.ok.above)
  have neC : ∀ b o, X.s₀.heap.get? b = some o → b ∉ X.ex → b ∉ ch := fun b o e hx hb => by
    rcases (hch b hb).1 with z | z
    · exact hx z
    · exact absurd (Nat.lt_of_lt_of_le (Heap.lt_size e) z) (Nat.lt_irrefl _)
  have cellK : ∀ x c, X.env.cells.lookup x = some c → ∀ v, s.heap.IsCell c v → h'.IsCell c v := fun x c e v ⟨o, ho, hd⟩ => by
    have nch : c ∉ ch := fun z => (hch c z).2.2.1 x c e rfl
    by_cases hc : c ∈ X.fs
    · obtain ⟨sl, q⟩ := slot c o (I.cne x c e) hc nch ho (I.freeC x c e)
      exact ⟨_, q, hd⟩
    · exact ⟨o, keep c o (I.cne x c e) hc nch ho (I.freeC x c e), hd⟩
  refine ⟨I.ok, I.os, hg, ⟨fun b o e n hb hx => ?_, fun b o e n hb hx => ?_, fun b o e n hx => ?_, fun b o e hx => ?_, fun b xs e => tups b xs (I.base.tups b xs e), fun b o xs e => frzs b o xs (I.base.frzs b o xs e), fun b ps e => ?_⟩, ?_, fun x c e => ?_, ?_, fun x c e => ?_, fun p hp => ?_, hok, I.len⟩
  · exact keep b o (neL b o e) hb (neC b o e hx) (I.base.keep b o e n hb hx) (I.base.free b o e n hx)
  · obtain ⟨sl, e1⟩ := I.base.slot b o e n hb hx
    obtain ⟨sl', e2⟩ := slot b _ (neL b o e) hb (neC b o e hx) e1 (I.base.free b o e n hx)
    exact ⟨sl', e2⟩
  · obtain ⟨o', e1⟩ := I.base.there b o e hx
    exact free b o' (neC b o e hx) e1 (I.base.free b o e n hx)
  · obtain ⟨o', e1⟩ := I.base.there b o e hx
    exact there b o' (neC b o e hx) e1
  · obtain ⟨m1, e1⟩ := I.base.tbls b ps e
    obtain ⟨m2, e2⟩ := tbls b _ e1
    exact ⟨m1 ++ m2, by rw [e2, Array.append_assoc]⟩
  · obtain ⟨m, hn, hl⟩ := I.loc
    refine ⟨m, ns m hn, fun i x v e1 e2 e3 => ?_⟩
    obtain ⟨u, r, l⟩ := hl i x v e1 e2 e3
    refine ⟨u, r, ?_⟩
    rcases l with l | ⟨k, c, e, z⟩
    · exact .inl l
    · exact .inr ⟨k, c, e, cellK x c e _ z⟩
  · obtain ⟨v, z⟩ := I.cell x c e
    exact ⟨v, cellK x c e v z⟩
  · obtain ⟨m, ⟨o, _, _, ho, _⟩, _⟩ := I.loc
    exact free _ o (fun z => (hch _ z).2.1 rfl) ho I.free
  · obtain ⟨v, o, ho, hd⟩ := I.cell x c e
    exact free c o (fun z => (hch c z).2.2.1 x c e rfl) ho (I.freeC x c e)
  · obtain ⟨e, n, ne, nf, d⟩ := I.pin p hp
    have nch : p.1 ∉ ch := fun z => (hch p.1 z).2.2.2 p hp rfl
    exact ⟨keep p.1 p.2 ne nf nch e n, free p.1 p.2 nch e n, ne, nf, d⟩
theorem Inv.un {t' : Nat} (I : Inv X pins σ H s) (u : Un X.fs [] H H' s.heap h') (hok : HOk X.prog X.w H' h') : Inv X pins σ H' { s with heap := h', toks := t' } := by
  obtain ⟨m, ⟨o, es, ep, ho, r⟩, _⟩ := id I.loc
  obtain ⟨sl, hL⟩ := u.any ho I.free (by simp)
  exact I.step (g' := s.gens) (d' := s.drawn) (ch := []) (fun _ z => nomatch z) (fun b o _ hb _ e n => u.keep b o e n hb (by simp)) (fun b o _ hb _ e n => u.slot b o e n hb (by simp)) (fun b o _ e n => u.free b o e n (by simp)) (fun b o _ e => u.there b o e (by simp)) u.tups u.frzs u.tbls (fun m' hm => by
    obtain ⟨o', es', ep', ho', r'⟩ := hm
    rw [ho] at ho'; cases ho'
    exact ⟨_, es', ep', hL, r'⟩) hok I.bare
theorem Inv.call {g' : Array GenState} {t' : Nat} {d' : Drawn} {ch : List Addr} (I : Inv X pins σ H s) (u : Un (frs X.stack) ch H H' s.heap h') (hok : HOk X.prog X.w H' h') (hg : AllBare g')
    (hch : ∀ b ∈ ch, (b ∈ X.ex ∨ X.s₀.heap.objs.size ≤ b) ∧ b ≠ X.env.locals ∧ (∀ x c, X.env.cells.lookup x = some c → c ≠ b) ∧ ∀ p ∈ X.pn ++ pins, p.1 ≠ b) :
    Inv X pins σ H' { s with heap := h', gens := g', drawn := d', toks := t' } := by
  obtain ⟨m, ⟨o, es, ep, ho, r⟩, _⟩ := id I.loc
  obtain ⟨sl, hL⟩ := u.any ho I.free fun z => (hch _ z).2.1 rfl
  exact I.step (ch := ch) hch (fun b o hL hb hc e n => u.keep b o e n (fun z => (List.mem_cons.mp (I.stkSub b z)).elim hL hb) hc) (fun b o _ _ hc e n => u.any e n hc) (fun b o hc e n => u.free b o e n hc) (fun b o hc e => u.there b o e hc) u.tups u.frzs u.tbls (fun m' hm => by
    obtain ⟨o', es', ep', ho', r'⟩ := hm
    rw [ho] at ho'; cases ho'
    exact ⟨_, es', ep', hL, r'⟩) hok hg
theorem Inv.turned {t' : Nat} {it : Addr} (I : Inv X pins σ H s) (k : ∀ b o, b ≠ it → s.heap.get? b = some o → h'.get? b = some o) (hn : H it = none) (hL : it ≠ X.env.locals)
    (h1 : it ∈ X.ex ∨ X.s₀.heap.objs.size ≤ it) (h2 : ∀ x c, X.env.cells.lookup x = some c → c ≠ it) (h3 : ∀ p ∈ X.pn ++ pins, p.1 ≠ it) : Inv X pins σ H { s with heap := h', toks := t' } := by
  have nit : ∀ b u, H b = some u → b ≠ it := fun b u e z => by rw [z, hn] at e; cases e
  refine I.step (g' := s.gens) (d' := s.drawn) (ch := [it]) (fun b hb => ?_) (fun b o _ _ hc e _ => k b o (fun z => hc (by simp [z])) e) (fun b o _ _ hc e _ => ⟨o.slots, k b o (fun z => hc (by simp [z])) e⟩) (fun _ _ _ _ n => n)
    (fun b o hc e => ⟨o, k b o (fun z => hc (by simp [z])) e⟩) (fun _ _ e => e) (fun _ _ _ e => e) (fun b ps e => ⟨#[], by rw [e]; simp⟩) (fun m hm => ?_) (fun b u e => ?_) I.bare
  · have e : b = it := by simpa using hb
    subst e
    exact ⟨h1, hL, h2, h3⟩
  · obtain ⟨o, es, ep, ho, r⟩ := hm
    exact ⟨o, es, ep, k _ o (Ne.symm hL) ho, r⟩
  · refine (I.hok b u e).stay (fun c v hc q => k c v ?_ q) (fun _ q => q) fun _ _ q => q
    rcases hc with z | z
    · rw [z]; exact nit b u e
    · exact nit c _ z
theorem Inv.tok (I : Inv X pins σ H s) (t : Nat) : Inv X pins σ H { s with toks := t } := I.un (h' := s.heap) (t' := t) Un.refl I.hok
theorem Inv.kept {t' : Nat} (I : Inv X pins σ H s) (k : ∀ b u, s.heap.get? b = some u → h'.get? b = some u) : Inv X pins σ H { s with heap := h', toks := t' } := I.un (Un.kept k) (I.hok.kept k)
theorem Inv.laid {a : Addr} {o : HO} {t' : Nat} (I : Inv X pins σ H s) (k : ∀ b u, s.heap.get? b = some u → h'.get? b = some u) (hp : s.heap.objs.size ≤ a) (new : ObjOk X.prog X.w (upd H a o) h' a o) :
    Inv X pins σ (upd H a o) { s with heap := h', toks := t' } := I.un (Un.laid k hp (I.hok.fresh hp)) (I.hok.laid k hp new)
theorem Inv.write {x e : Addr} {o : HO} {t' : Nat} (I : Inv X pins σ H s) (mu : Mut (H x)) (he : e = x ∨ H e = some (.own x)) (k : ∀ b u, b ≠ e → s.heap.get? b = some u → h'.get? b = some u) (heo : ∃ u, h'.get? e = some u)
    (new : ObjOk X.prog X.w (upd H x o) h' x o) : Inv X pins σ (upd H x o) { s with heap := h', toks := t' } := I.un (Un.write mu he k heo) (I.hok.write mu he k heo new)
theorem Inv.pins_of {pins' : List (Addr × Obj)} (I : Inv X pins σ H s) (h : ∀ p ∈ pins', s.heap.get? p.1 = some p.2 ∧ H p.1 = none ∧ p.1 ≠ X.env.locals ∧ p.1 ∉ X.fs ∧ ∀ v, p.2.data ≠ .cell v) : Inv X pins' σ H s :=
  ⟨I.ok, I.os, I.bare, I.base, I.loc, I.cell, I.free, I.freeC, fun p hp => (List.mem_append.mp hp).elim (fun z => I.pin p (List.mem_append_left _ z)) (h p), I.hok, I.len⟩
theorem zdS {N : List Str} (hN : N.Nodup) {i j : Nat} {x : Str} (a : N[i]? = some x) (b : N[j]? = some x) : i = j := by
  obtain ⟨h1, e1⟩ := List.getElem?_eq_some_iff.mp a
  obtain ⟨h2, e2⟩ := List.getElem?_eq_some_iff.mp b
  exact (List.getElem_inj hN).mp (e1.trans e2.symm)
theorem zg6 {M : Model} {A : Around} {E : Value → Shared → Prop} {i : Nat} {x : Str} {v : V} {u : Value} {Q : Unit → Shared → Prop} (I : Inv X pins σ H s) (hN : X.N.Nodup) (hi : X.N[i]? = some x) (hx : Loc X.env.scope x) (r : RelV v u)
    (h : ∀ s', Inv X pins (σ.set i (some v)) H s' → (∃ a, Heap.SameBut a s.heap s'.heap ∧ (a = X.env.locals ∨ X.env.cells.lookup x = some a)) → Q () s') (hf : X.fn x = true ∨ X.env.scope.names.lookup x = some .local := by first | exact .inl rfl | exact .inr rfl | assumption) : wpAny M A (storeName X.env x u) Q E s := by
  obtain ⟨m, hn, hl⟩ := id I.loc
  have hcls : (X.env.scope.kind == .class || (X.env.scope.kind == .module && X.env.locals != X.env.globals)) = false := by rw [I.ok.kind]; rfl
  have hiσ : i < σ.length := by rw [I.len]; exact (List.getElem?_eq_some_iff.mp hi).1
  have cne := I.cne
  have tracked : ∀ {a : Addr} {h' : Heap}, (∃ o, s.heap.get? a = some o ∧ H a = none) → Heap.SameBut a s.heap h' → HOk X.prog X.w H h' := fun {a h'} ha hs b ob e => by
    obtain ⟨_, _, hfree⟩ := ha
    refine (I.hok b ob e).stay (fun c w' hc q => (hs.2 c ?_).trans q) (fun _ q => q) fun _ _ q => q
    rintro rfl
    rcases hc with rfl | hc
    · rw [hfree] at e; cases e
    · rw [hfree] at hc; cases hc
  rcases hx with hk | hk
  · refine wpAny_storeName_local hk hn (fun h' hn' hs => ?_) hcls
    obtain ⟨oL, _, _, hoL, _⟩ := id hn
    refine h _ ⟨I.ok, I.os, I.bare, ⟨fun b o e n hb hx => ?_, fun b o e n hb hx => ?_, I.base.free, fun b o e hx => ?_, I.base.tups, I.base.frzs, I.base.tbls⟩, ⟨_, hn', fun j y v' e1 e2 e3 => ?_⟩, fun y c e => ?_, I.free, I.freeC, fun p hp => ?_, tracked ⟨oL, hoL, I.free⟩ hs, by simpa using I.len⟩ ⟨_, hs, .inl rfl⟩
    · exact (hs.2 b (Nat.ne_of_lt (Nat.lt_of_lt_of_le (Heap.lt_size e) I.ok.above))).trans (I.base.keep b o e n hb hx)
    · obtain ⟨sl, e1⟩ := I.base.slot b o e n hb hx
      exact ⟨sl, (hs.2 b (Nat.ne_of_lt (Nat.lt_of_lt_of_le (Heap.lt_size e) I.ok.above))).trans e1⟩
    · obtain ⟨o', e1⟩ := I.base.there b o e hx
      exact ⟨o', (hs.2 b (Nat.ne_of_lt (Nat.lt_of_lt_of_le (Heap.lt_size e) I.ok.above))).trans e1⟩
    · by_cases hj : j = i
      · subst hj
        rw [hi] at e1; cases e1
        rw [List.getElem?_set_self hiσ] at e2
        cases e2
        exact ⟨u, r, .inl ⟨hk, by simp⟩⟩
      · rw [List.getElem?_set_ne (Ne.symm hj)] at e2
        obtain ⟨u', r', q⟩ := hl j y v' e1 e2 e3
        refine ⟨u', r', ?_⟩
        rcases q with ⟨k, e⟩ | ⟨k, c, e, z⟩
        · refine .inl ⟨k, ?_⟩
          have : y ≠ x := fun e => hj (zdS hN e1 (e ▸ hi))
          simp [this, e]
        · exact .inr ⟨k, c, e, z.sameBut hs (cne y c e)⟩
    · obtain ⟨w', z⟩ := I.cell y c e
      exact ⟨w', z.sameBut hs (cne y c e)⟩
    · obtain ⟨e, n, ne, nf, d⟩ := I.pin p hp
      exact ⟨(hs.2 p.1 ne).trans e, n, ne, nf, d⟩
  · have hfn : X.fn x = true := by
      rcases hf with z | z
      · exact z
      · rw [z] at hk; cases hk
    obtain ⟨c, hc⟩ := I.ok.has x (.inl hk)
    obtain ⟨w', z⟩ := I.cell x c hc
    refine wpAny_storeName_cell I.ok.kind hk hc z (fun h' hc' hs => ?_)
    obtain ⟨oc, hoc, hocd⟩ := id z
    refine h { s with heap := h' } ⟨I.ok, I.os, I.bare, ⟨fun b o e n hb hx => ?_, fun b o e n hb hx => ?_, I.base.free, fun b o e hx => ?_, I.base.tups, I.base.frzs, I.base.tbls⟩, ⟨m, hn.sameBut hs (Ne.symm (cne x c hc)), fun j y v' e1 e2 e3 => ?_⟩, fun y c' e => ?_, I.free, I.freeC, fun p hp => ?_, tracked ⟨oc, hoc, I.freeC x c hc⟩ hs, by simpa using I.len⟩ ⟨c, hs, .inr hc⟩
    · exact (hs.2 b (Nat.ne_of_lt (Nat.lt_of_lt_of_le (Heap.lt_size e) (I.ok.cab x c hfn hc)))).trans (I.base.keep b o e n hb hx)
    · obtain ⟨sl, e1⟩ := I.base.slot b o e n hb hx
      exact ⟨sl, (hs.2 b (Nat.ne_of_lt (Nat.lt_of_lt_of_le (Heap.lt_size e) (I.ok.cab x c hfn hc)))).trans e1⟩
    · obtain ⟨o', e1⟩ := I.base.there b o e hx
      exact ⟨o', (hs.2 b (Nat.ne_of_lt (Nat.lt_of_lt_of_le (Heap.lt_size e) (I.ok.cab x c hfn hc)))).trans e1⟩
    · by_cases hj : j = i
      · subst hj
        rw [hi] at e1; cases e1
        rw [List.getElem?_set_self hiσ] at e2
        cases e2
        exact ⟨u, r, .inr ⟨.inl hk, c, hc, hc'⟩⟩
      · rw [List.getElem?_set_ne (Ne.symm hj)] at e2
        obtain ⟨u', r', q⟩ := hl j y v' e1 e2 e3
        refine ⟨u', r', ?_⟩
        rcases q with q | ⟨k, c', e, z'⟩
        · exact .inl q
        · refine .inr ⟨k, c', e, z'.sameBut hs ?_⟩
          rintro rfl
          exact hj (zdS hN e1 (I.ok.inj _ _ _ e hc ▸ hi))
    · by_cases hcc : c' = c
      · subst hcc; exact ⟨_, hc'⟩
      · obtain ⟨w2, z2⟩ := I.cell y c' e
        exact ⟨w2, z2.sameBut hs hcc⟩
    · obtain ⟨e, n, ne, nf, d⟩ := I.pin p hp
      refine ⟨(hs.2 p.1 ?_).trans e, n, ne, nf, d⟩
      intro q
      rw [q, hoc] at e
      have q' : oc = p.2 := Option.some.inj e
      exact d w' (by rw [← q']; exact hocd)
theorem zdT {M : Model} {A : Around} {E : Value → Shared → Prop} {i : Nat} {x : Str} {v : V} {u : Value} {Q : Unit → Shared → Prop} (I : Inv X pins σ H s) (hN : X.N.Nodup) (hi : X.N[i]? = some x) (hx : Loc X.env.scope x) (r : RelV v u)
    (h : ∀ s', Inv X pins (σ.set i (some v)) H s' → Q () s') (hf : X.fn x = true ∨ X.env.scope.names.lookup x = some .local := by first | exact .inl rfl | exact .inr rfl | assumption) : wpAny M A (storeName X.env x u) Q E s :=
  zg6 I hN hi hx r (fun s' I' _ => h s' I') hf
theorem Inv.call' {s' : Shared} {ch : List Addr} (I : Inv X pins σ H s) (ho : s'.os = s.os) (u : Un (frs X.stack) ch H H' s.heap s'.heap) (hok : HOk X.prog X.w H' s'.heap) (hg : AllBare s'.gens)
    (hch : ∀ b ∈ ch, (b ∈ X.ex ∨ X.s₀.heap.objs.size ≤ b) ∧ b ≠ X.env.locals ∧ (∀ x c, X.env.cells.lookup x = some c → c ≠ b) ∧ ∀ p ∈ X.pn ++ pins, p.1 ≠ b) : Inv X pins σ H' s' := by
  obtain ⟨h', g', d', t', o'⟩ := s'
  have e : o' = s.os := ho
  subst e
  exact I.call (g' := g') (t' := t') (d' := d') u hok hg hch
end
noncomputable abbrev XK := Value → Option Addr → Hp → Prop
noncomputable abbrev St := List (Option V)
noncomputable abbrev VK := V → Hp → Prop
noncomputable abbrev TE := St → Hp → VK → Prop
noncomputable abbrev TT := St → Hp → (Bool → Hp → Prop) → Prop
noncomputable abbrev TA := St → Hp → (List V → Hp → Prop) → Prop
structure Ends where
  nx : St → Hp → Prop
  rt : VK
  bk : St → Hp → Prop := fun _ _ => False
  ct : St → Hp → Prop := fun _ _ => False
noncomputable abbrev TS := Ends → St → Hp → Prop
noncomputable def EP (X : Cx) (pins : List (Addr × Obj)) (σ : St) (Q : VK) (u : Value) (s' : Shared) : Prop := ∃ v H', Inv X pins σ H' s' ∧ RelV v u ∧ Q v H'
noncomputable def TP (X : Cx) (pins : List (Addr × Obj)) (σ : St) (Q : Bool → Hp → Prop) (b : Bool) (s' : Shared) : Prop := ∃ H', Inv X pins σ H' s' ∧ Q b H'
noncomputable def AP (X : Cx) (pins : List (Addr × Obj)) (σ : St) (Q : List V → Hp → Prop) (us : List Value) (s' : Shared) : Prop := ∃ vs H', Inv X pins σ H' s' ∧ Vals vs us ∧ Q vs H'
noncomputable def SP (X : Cx) (pins : List (Addr × Obj)) (D : Ends) (f : Flow) (s' : Shared) : Prop :=
  match f with
  | .next => ∃ σ' H', Inv X pins σ' H' s' ∧ D.nx σ' H'
  | .brk => ∃ σ' H', Inv X pins σ' H' s' ∧ D.bk σ' H'
  | .cont => ∃ σ' H', Inv X pins σ' H' s' ∧ D.ct σ' H'
  | .ret u => ∃ v σ' H', Inv X pins σ' H' s' ∧ RelV v u ∧ D.rt v H'
noncomputable def PE (X : Cx) (e : Expr) (t : TE) : Prop :=
  ∀ (pins : List (Addr × Obj)) (s : Shared) (σ : St) (H : Hp) (Q : VK), Inv X pins σ H s → t σ H Q → wpAny (model X.prog X.w) X.A (eval e X.env) (EP X pins σ Q) X.xe s
noncomputable def PT (X : Cx) (e : Expr) (t : TT) : Prop :=
  ∀ (pins : List (Addr × Obj)) (s : Shared) (σ : St) (H : Hp) (Q : Bool → Hp → Prop), Inv X pins σ H s → t σ H Q → wpAny (model X.prog X.w) X.A (isTrue e X.env (eval e X.env)) (TP X pins σ Q) X.xe s
noncomputable def PW (X : Cx) (e : Expr) (t : TT) : Prop :=
  ∀ (whole : Sem Value) (pins : List (Addr × Obj)) (s : Shared) (σ : St) (H : Hp) (Q : Bool → Hp → Prop), Inv X pins σ H s → t σ H Q → wpAny (model X.prog X.w) X.A (isTrue e X.env whole) (TP X pins σ Q) X.xe s
theorem PW.pt {X : Cx} {e : Expr} {t : TT} (h : PW X e t) : PT X e t := h _
noncomputable def PA (X : Cx) (es : List Expr) (t : TA) : Prop :=
  ∀ (pos : Pos) (pins : List (Addr × Obj)) (s : Shared) (σ : St) (H : Hp) (Q : List V → Hp → Prop), Inv X pins σ H s → t σ H Q → wpAny (model X.prog X.w) X.A (spliced (backTo pos (starEach es X.env))) (AP X pins σ Q) X.xe s
noncomputable def PS (X : Cx) (st : Stmt) (t : TS) : Prop :=
  ∀ (pins : List (Addr × Obj)) (s : Shared) (σ : St) (H : Hp) (D : Ends), Inv X pins σ H s → t D σ H → wpAny (model X.prog X.w) X.A (exec st X.env) (SP X pins D) X.xe s
noncomputable def PSs (X : Cx) (st : List Stmt) (t : TS) : Prop :=
  ∀ (pins : List (Addr × Obj)) (s : Shared) (σ : St) (H : Hp) (D : Ends), Inv X pins σ H s → t D σ H → wpAny (model X.prog X.w) X.A (execs st X.env) (SP X pins D) X.xe s
theorem thn {α : Type} {t : Sem α} {Q Q' : α → Shared → Prop} {M : Model} {A : Around} {E : Value → Shared → Prop} {s : Shared} (h : wpAny M A t Q E s) (hQ : ∀ a s, Q a s → Q' a s) : wpAny M A t Q' E s := wpAny_mono h hQ fun _ _ x => x
end L2
namespace L2
open PySem PySem.Spec PyProof.Rows
section
variable {X : Cx}
noncomputable def zrQ (i : Nat) : TE := fun σ H Q => ∃ v, σ[i]? = some (some v) ∧ Q v H
noncomputable def tC (v : V) : TE := fun _ H Q => Q v H
theorem zcP {i : Nat} {x : Str} {pos : Pos} (hN : X.N[i]? = some x) (hv : Vis X.env.scope x) (hd : (x == ("__debug__" : Str)) = false := by decide) (hcd : (x == ("__classdict__" : Str)) = false := by decide) : PE X (.Name x pos) (zrQ i) := by
  intro pins s σ H Q I h
  obtain ⟨v, e, h⟩ := h
  obtain ⟨m, hn, hl⟩ := I.loc
  obtain ⟨u, r, l⟩ := hl i x v hN e hv
  have fin : EP X pins σ Q u s := ⟨v, H, I, r, h⟩
  rcases l with ⟨hk, hm⟩ | ⟨hk, c, hc, zg7⟩
  · exact wpAny_Name (wpAny_loadName_local I.ok.kind hk hn hm fin) hd
  · rcases hk with hk | hk
    · exact wpAny_Name (wpAny_loadName_cell I.ok.kind hk hc zg7 fin) hd
    · exact wpAny_Name (wpAny_loadName_free I.ok.kind hk hc zg7 fin hcd) hd
theorem zlZ {i j pos} : PE X (.Constant (.int i) j pos) (tC (.int i)) := fun _ _ _ H _ I h => wpAny_Constant_int ⟨.int i, H, I.tok _, ⟨_, rfl⟩, h⟩
theorem zpU {b j pos} : PE X (.Constant (.bool b) j pos) (tC (.bl b)) := fun _ _ _ H _ I h => Constant_bool ⟨.bl b, H, I, rfl, h⟩
theorem zbn {x j pos} : PE X (.Constant (.str x) j pos) (tC (.str x)) := fun _ _ _ H _ I h => Calls.Constant_str ⟨.str x, H, I.tok _, ⟨_, rfl⟩, h⟩
noncomputable def Gl (X : Cx) (x : Str) : Prop := X.env.kindOf x = some .globalImplicit
theorem zcQ {E : Value → Shared → Prop} {pins : List (Addr × Obj)} {s : Shared} {σ : St} {H : Hp} {x : Str} {u : Value} {pos : Pos} {Q : Value → Shared → Prop} (I : Inv X pins σ H s) (hg : Gl X x) (hm : X.mg x = some u) (h : Q u s)
    (hd : (x == ("__debug__" : Str)) = false := by decide) : wpAny (model X.prog X.w) X.A (eval (.Name x pos) X.env) Q E s :=
  Calls.Name_function_global I.ok.kind hg (Calls.loadGlobal_global (by rw [I.ok.glob]; exact I.mod.glob.keeps I.bk) hm h) hd
theorem zdz {E : Value → Shared → Prop} {pins : List (Addr × Obj)} {s : Shared} {σ : St} {H : Hp} {x : Str} {u : Value} {pos : Pos} {Q : Value → Shared → Prop} (I : Inv X pins σ H s) (hg : Gl X x) (hm : X.mg x = none) (hv : bootBuiltins x = some u) (h : Q u s)
    (hn : x ≠ "__name__" := by decide) (hd : (x == ("__debug__" : Str)) = false := by decide) : wpAny (model X.prog X.w) X.A (eval (.Name x pos) X.env) Q E s := by
  obtain ⟨mb, h1, h2⟩ := I.mod.blt
  exact Calls.Name_function_global I.ok.kind hg (Calls.loadGlobal_builtin (by rw [I.ok.glob]; exact I.mod.glob.keeps I.bk) hm (by rw [I.ok.blt]; exact h1.keeps I.bk) ((h2 x hn).trans hv) h) hd
theorem zkj {x : Str} {v : V} {u : Value} {pos : Pos} (hg : Gl X x) (hm : X.mg x = some u) (r : RelV v u) (hd : (x == ("__debug__" : Str)) = false := by decide) : PE X (.Name x pos) (tC v) :=
  fun _ _ _ H _ I h => zcQ I hg hm ⟨v, H, I, r, h⟩ hd
theorem zkk {x : Str} {v : V} {u : Value} {pos : Pos} (hg : Gl X x) (hm : X.mg x = none) (hv : bootBuiltins x = some u) (r : RelV v u) (hn : x ≠ "__name__" := by decide) (hd : (x == ("__debug__" : Str)) = false := by decide) : PE X (.Name x pos) (tC v) :=
  fun _ _ _ H _ I h => zdz I hg hm hv ⟨v, H, I, r, h⟩ hn hd
variable {a b : Expr} {ta tb : TE} {pos : Pos}
variable {tA tB' : TT} {zbX : List Expr}
noncomputable def tOr (t u : TT) : TT := fun σ H Q => t σ H fun c H1 => if c = true then Q true H1 else u σ H1 Q
noncomputable def zsC (t : TT) : TT := fun σ H Q => t σ H fun c H1 => Q (!c) H1
theorem zl0 (ha : PT X a tA) : PW X (.BoolOp .Or [a] pos) tA := by
  intro wh pins s σ H Q I h
  refine isTrue_or (thn (ha pins s σ H Q I h) fun c s1 e => ?_)
  cases c with
  | false => exact isTrue_or_nil e
  | true => exact e
theorem zpV (ha : PT X a tA) (hb : PW X (.BoolOp .Or (b :: zbX) pos) tB') : PW X (.BoolOp .Or (a :: b :: zbX) pos) (tOr tA tB') := by
  intro wh pins s σ H Q I h
  refine isTrue_or (thn (ha pins s σ H _ I h) fun c s1 ⟨H1, I1, q1⟩ => ?_)
  cases c with
  | true => exact ⟨H1, I1, q1⟩
  | false => exact hb wh pins s1 σ H1 Q I1 q1
theorem zl1 (ha : PT X a tA) : PT X (.UnaryOp .Not a pos) (zsC tA) := by
  intro pins s σ H Q I h
  exact isTrue_not (ha pins s σ H (fun c H1 => Q (!c) H1) I h)
noncomputable def zpW (ta tb : TE) : TE := fun σ H Q => ta σ H fun x H1 => ∃ c, x = .bl c ∧ if c = true then tb σ H1 Q else Q (.bl false) H1
theorem zl2 {op} {t : TE} (h : PE X a t) : PE X (.BoolOp op [a] pos) t := fun pins s σ H Q I hw => BoolOp_one (h pins s σ H Q I hw)
theorem zl3 (ha : PE X a ta) (hb : PE X (.BoolOp .And (b :: zbX) pos) tb) : PE X (.BoolOp .And (a :: b :: zbX) pos) (zpW ta tb) := by
  intro pins s σ H Q I h
  refine BoolOp_and (thn (ha pins s σ H _ I h) fun v s1 ⟨x, H1, I1, r1, q1⟩ => ?_)
  obtain ⟨c, rfl, q1⟩ := q1
  cases r1
  refine wpAny_truthy_bool ?_
  cases c with
  | true => exact hb pins s1 σ H1 Q I1 q1
  | false => exact ⟨.bl false, H1, I1, rfl, q1⟩
noncomputable def tIf (t : TT) (ta tb : TE) : TE := fun σ H Q => t σ H fun c H1 => if c = true then ta σ H1 Q else tb σ H1 Q
theorem ziD {c : Expr} (hc : PT X c tA) (ha : PE X a ta) (hb : PE X b tb) : PE X (.IfExp c a b pos) (tIf tA ta tb) := by
  intro pins s σ H Q I h
  refine wpAny_IfExp (thn (hc pins s σ H _ I h) fun d s1 ⟨H1, I1, q1⟩ => ?_)
  cases d with
  | true => exact ha pins s1 σ H1 Q I1 q1
  | false => exact hb pins s1 σ H1 Q I1 q1
end
end L2
namespace L2
open PySem PySem.Spec PyProof.Rows
noncomputable def SqL (K : PySem.W.Frag) (H : Hp) (a : Addr) (xs : List V) : Prop :=
  Rd H a (.lst xs) ∨
    ∃ (o : Obj) (its : Array Value) (n : Nat), K.lookup a = some o ∧ o.cls = .type "list" ∧ o.dict = none ∧ o.data = .seq its n ∧ its.size ≤ sizeLine ∧ Vals xs its.toList
noncomputable def SqT (K : PySem.W.Frag) (H : Hp) (a : Addr) (xs : List V) : Prop :=
  Rd H a (.tup xs) ∨
    ∃ (o : Obj) (its : Array Value) (n : Nat), K.lookup a = some o ∧ o.cls = .type "tuple" ∧ o.data = .seq its n ∧ its.size ≤ sizeLine ∧ Vals xs its.toList
noncomputable def zsD : Value → Option V
  | .none => some .non
  | .bool b => some (.bl b)
  | .int i _ => some (.int i)
  | .str x _ => some (.str x)
  | .bytes b _ => some (.byt b)
  | .float b _ => some (.flt b)
  | .ref a => some (.ref a)
  | .type n => some (.ty n)
  | _ => none
theorem RelV.abs {x : V} {u : Value} (r : RelV x u) : zsD u = some x := by
  cases x with
  | non => cases r; rfl
  | bl _ => cases r; rfl
  | int _ => obtain ⟨t, rfl⟩ := r; rfl
  | str _ => obtain ⟨t, rfl⟩ := r; rfl
  | byt _ => obtain ⟨t, rfl⟩ := r; rfl
  | flt _ => obtain ⟨t, rfl⟩ := r; rfl
  | ref _ => cases r; rfl
  | ty _ => cases r; rfl
theorem RelV.inj {x y : V} {u : Value} (r : RelV x u) (q : RelV y u) : x = y := Option.some.inj (r.abs.symm.trans q.abs)
theorem Vals.inj : ∀ {xs ys : List V} {us : List Value}, Vals xs us → Vals ys us → xs = ys
  | _, _, _, .nil, .nil => rfl
  | _, _, _, .cons r t, .cons r' t' => by rw [r.inj r', Vals.inj t t']
section
variable {X : Cx} {pins : List (Addr × Obj)} {σ : St} {H : Hp} {s : Shared} {a : Addr} {xs ys : List V}
theorem SqL.of {K : PySem.W.Frag} (h : H a = some (.lst xs)) : SqL K H a xs := .inl (.inl h)
theorem SqT.of {K : PySem.W.Frag} (h : H a = some (.tup xs)) : SqT K H a xs := .inl (.inl h)
theorem Inv.list (I : Inv X pins σ H s) (h : SqL X.K H a xs) : ∃ its : List Value, Vals xs its ∧ PlainL s.heap a its.toArray ∧ xs.length ≤ sizeLine := by
  rcases h with h | ⟨o, its, n, hk, hc, hd, hs, hz, r⟩
  · obtain ⟨z, its, n, r, e⟩ := h.ok I.hok
    exact ⟨its, r, ⟨_, n, e, rfl, rfl, rfl⟩, z⟩
  · refine ⟨its.toList, r, ⟨o, n, I.kIn a o hk, hc, hd, by simpa using hs⟩, ?_⟩
    have e := r.length
    simp only [Array.length_toList] at e
    omega
theorem Inv.tuple (I : Inv X pins σ H s) (h : SqT X.K H a xs) : ∃ its : List Value, Vals xs its ∧ IsTup s.heap a its.toArray ∧ xs.length ≤ sizeLine := by
  rcases h with h | ⟨o, its, n, hk, hc, hs, hz, r⟩
  · obtain ⟨z, its, r, p⟩ := h.ok I.hok
    exact ⟨its, r, p, z⟩
  · refine ⟨its.toList, r, ⟨o, I.kIn a o hk, hc, n, by simpa using hs⟩, ?_⟩
    have e := r.length
    simp only [Array.length_toList] at e
    omega
theorem Inv.list_inj (I : Inv X pins σ H s) (h : SqL X.K H a xs) (h' : SqL X.K H a ys) : xs = ys := by
  obtain ⟨its, r, ⟨o, n, e, _, _, d⟩, _⟩ := I.list h
  obtain ⟨its', r', ⟨o', n', e', _, _, d'⟩, _⟩ := I.list h'
  rw [e] at e'; cases e'
  rw [d] at d'
  injection d' with d1 _
  have : its = its' := by simpa using congrArg Array.toList d1
  subst this
  exact r.inj r'
theorem Inv.tuple_inj (I : Inv X pins σ H s) (h : SqT X.K H a xs) (h' : SqT X.K H a ys) : xs = ys := by
  obtain ⟨its, r, ⟨o, e, _, n, d⟩, _⟩ := I.tuple h
  obtain ⟨its', r', ⟨o', e', _, n', d'⟩, _⟩ := I.tuple h'
  rw [e] at e'; cases e'
  rw [d] at d'
  injection d' with d1 _
  have : its = its' := by simpa using congrArg Array.toList d1
  subst this
  exact r.inj r'
end
noncomputable abbrev Cx.wish (X : Cx) (E : Value → Shared → Prop) : Cx := { X with xe := E }
noncomputable abbrev Cx.nox (X : Cx) : Cx := X.wish fun _ _ => False
theorem Cx.Ok.wish {X : Cx} (ok : X.Ok) (E : Value → Shared → Prop) : (X.wish E).Ok :=
  ⟨ok.mod, ok.kind, ok.glob, ok.blt, ok.above, ok.inj, ok.has, ok.cab, ok.hd, ok.frames, ok.stk, ok.exf, ok.bs, ok.bsz, ok.noex, ok.exfs, ok.funs, ok.frf⟩
theorem Cx.Ok.unwish {X : Cx} {E : Value → Shared → Prop} (ok : (X.wish E).Ok) : X.Ok :=
  ⟨ok.mod, ok.kind, ok.glob, ok.blt, ok.above, ok.inj, ok.has, ok.cab, ok.hd, ok.frames, ok.stk, ok.exf, ok.bs, ok.bsz, ok.noex, ok.exfs, ok.funs, ok.frf⟩
section
variable {X : Cx} {pins : List (Addr × Obj)} {σ : St} {H : Hp} {s : Shared} {E : Value → Shared → Prop}
theorem Inv.wish (I : Inv X pins σ H s) (E : Value → Shared → Prop) : Inv (X.wish E) pins σ H s := ⟨I.ok.wish E, I.os, I.bare, I.base, I.loc, I.cell, I.free, I.freeC, I.pin, I.hok, I.len⟩
theorem Inv.unwish (I : Inv (X.wish E) pins σ H s) : Inv X pins σ H s := ⟨I.ok.unwish, I.os, I.bare, I.base, I.loc, I.cell, I.free, I.freeC, I.pin, I.hok, I.len⟩
theorem SP.unwish {D : Ends} {f : Flow} {s' : Shared} (h : SP (X.wish E) pins D f s') : SP X pins D f s' := by
  cases f with
  | next => obtain ⟨σ', H', I, q⟩ := h; exact ⟨σ', H', I.unwish, q⟩
  | brk => obtain ⟨σ', H', I, q⟩ := h; exact ⟨σ', H', I.unwish, q⟩
  | cont => obtain ⟨σ', H', I, q⟩ := h; exact ⟨σ', H', I.unwish, q⟩
  | ret u => obtain ⟨v, σ', H', I, r, q⟩ := h; exact ⟨v, σ', H', I.unwish, r, q⟩
theorem PE.nox {e : Expr} {t : TE} (h : PE X.nox e t) : PE X e t := fun pins s σ H Q I hw =>
  wpAny_mono (h pins s σ H Q (I.wish _) hw) (fun _ _ ⟨v, H', I', r, q⟩ => ⟨v, H', I'.unwish, r, q⟩) fun _ _ z => False.elim z
theorem PT.nox {e : Expr} {t : TT} (h : PT X.nox e t) : PT X e t := fun pins s σ H Q I hw =>
  wpAny_mono (h pins s σ H Q (I.wish _) hw) (fun _ _ ⟨H', I', q⟩ => ⟨H', I'.unwish, q⟩) fun _ _ z => False.elim z
theorem PSs.nox {st : List Stmt} {t : TS} (h : PSs X.nox st t) : PSs X st t := fun pins s σ H D I hw =>
  wpAny_mono (h pins s σ H D (I.wish _) hw) (fun _ _ q => q.unwish) fun _ _ z => False.elim z
end
section
variable {X : Cx} {st : Stmt} {zbX : List Stmt} {t u : TS} {e : Expr} {te : TE} {pos : Pos}
noncomputable def zl4 : TS := fun D σ H => D.nx σ H
noncomputable def zpX (t u : TS) : TS := fun D σ H => t { D with nx := u D } σ H
theorem zfw : PSs X [] zl4 := fun _ _ σ H _ I h => wpAny_execs_nil ⟨σ, H, I, h⟩
theorem zcJ (h1 : PS X st t) (h2 : PSs X zbX u) : PSs X (st :: zbX) (zpX t u) := by
  intro pins s σ H D I h
  refine wpAny_execs_cons (thn (h1 pins s σ H { D with nx := u D } I h) fun f s1 q => ?_)
  cases f with
  | next =>
    obtain ⟨σ', H', I', q⟩ := q
    exact h2 pins s1 σ' H' D I' q
  | ret v => exact q
  | brk => exact q
  | cont => exact q
theorem Inv.quiet {pins : List (Addr × Obj)} {σ : St} {H : Hp} {s : Shared} (I : Inv X pins σ H s) : interactive X.env = false := by simp [interactive, I.ok.kind]
noncomputable def zpY (te : TE) : TS := fun D σ H => te σ H fun _ H1 => D.nx σ H1
theorem zfx (he : PE X e te) (hs : swapsWith e none pos.line X.env = pure false := by rfl) : PS X (.Expr e pos) (zpY te) := by
  intro pins s σ H D I h
  exact wpAny_Expr_any (thn (he pins s σ H _ I h) fun v s1 ⟨x, H1, I1, r1, q1⟩ => ⟨σ, H1, I1, q1⟩) I.quiet hs
noncomputable def zsE (te : TE) : TS := fun D σ H => te σ H D.rt
theorem zg8 (he : PE X e te) : PS X (.Return (some e) pos) (zsE te) := by
  intro pins s σ H D I h
  exact wpAny_Return_some (thn (he pins s σ H _ I h) fun v s1 ⟨x, H1, I1, r1, q1⟩ => ⟨x, σ, H1, I1, r1, q1⟩)
noncomputable def zsF (c : TT) (t u : TS) : TS := fun D σ H => c σ H fun b H1 => if b = true then t D σ H1 else u D σ H1
theorem zl5 {c : Expr} {a b : List Stmt} {tc : TT} (hc : PT X c tc) (ha : PSs X a t) (hb : PSs X b u) : PS X (.If c a b pos) (zsF tc t u) := by
  intro pins s σ H D I h
  refine wpAny_If (thn (hc pins s σ H _ I h) fun d s1 ⟨H1, I1, q1⟩ => ?_)
  cases d with
  | true => exact ha pins s1 σ H1 D I1 q1
  | false => exact hb pins s1 σ H1 D I1 q1
noncomputable def zl6 : TS := fun _ _ _ => False
theorem ziE : PS X st zl6 := fun _ _ _ _ _ _ h => h.elim
end
noncomputable abbrev TG := V → St → Hp → (St → Hp → Prop) → Prop
noncomputable abbrev TGs := List V → St → Hp → (St → Hp → Prop) → Prop
noncomputable def PG (X : Cx) (target : Expr) (t : TG) : Prop :=
  ∀ (pins : List (Addr × Obj)) (s : Shared) (σ : St) (H : Hp) (v : V) (u : Value) (Q : St → Hp → Prop), Inv X pins σ H s → RelV v u → t v σ H Q →
    wpAny (model X.prog X.w) X.A (assign target X.env u) (fun _ s' => ∃ σ' H', Inv X pins σ' H' s' ∧ Q σ' H') X.xe s
noncomputable def PGs (X : Cx) (ts : List Expr) (t : TGs) : Prop :=
  ∀ (pins : List (Addr × Obj)) (s : Shared) (σ : St) (H : Hp) (vs : List V) (us : List Value) (Q : St → Hp → Prop), Inv X pins σ H s → Vals vs us → t vs σ H Q →
    wpAny (model X.prog X.w) X.A (assignInOrder ((assignEach ts X.env).map (·.2)) us) (fun _ s' => ∃ σ' H', Inv X pins σ' H' s' ∧ Q σ' H') X.xe s
section
variable {X : Cx} {pos : Pos}
noncomputable def zgy (i : Nat) : TG := fun v σ H Q => Q (σ.set i (some v)) H
theorem zfy {i : Nat} {x : Str} (hN : X.N.Nodup) (hi : X.N[i]? = some x) (hx : Loc X.env.scope x) (hf : X.fn x = true ∨ X.env.scope.names.lookup x = some .local := by first | exact .inl rfl | exact .inr rfl | assumption) : PG X (.Name x pos) (zgy i) := by
  intro pins s σ H v u Q I r h
  exact wpAny_assign_Name (zdT I hN hi hx r (fun s' I' => ⟨_, H, I', h⟩) hf)
noncomputable def zrR : TGs := fun vs σ H Q => vs = [] ∧ Q σ H
noncomputable def zkl (t : TG) (u : TGs) : TGs := fun vs σ H Q => ∃ v r, vs = v :: r ∧ t v σ H fun σ' H' => u r σ' H' Q
theorem zkm : PGs X [] zrR := by
  intro pins s σ H vs us Q I r h
  obtain ⟨e, h⟩ := h
  subst e
  cases r
  exact assignInOrder_nil ⟨σ, H, I, h⟩
theorem zf0 {e : Expr} {es : List Expr} {t : TG} {u : TGs} (h1 : PG X e t) (h2 : PGs X es u)
    (hs : (assignEach (e :: es) X.env).map (·.2) = assign e X.env :: (assignEach es X.env).map (·.2) := by rfl) : PGs X (e :: es) (zkl t u) := by
  intro pins s σ H vs us Q I r h
  obtain ⟨v, vr, e1, h⟩ := h
  subst e1
  cases r with
  | cons r rr =>
    rw [hs]
    refine assignInOrder_cons (thn (h1 pins s σ H _ _ _ I r h) fun _ s1 ⟨σ1, H1, I1, q1⟩ => ?_)
    exact h2 pins s1 σ1 H1 _ _ Q I1 rr q1
noncomputable def zrS (K : PySem.W.Frag) (n : Nat) (t : TGs) : TG := fun v σ H Q => ∃ a xs, v = .ref a ∧ SqT K H a xs ∧ xs.length = n ∧ t xs σ H Q
theorem zl7 {es : List Expr} {k : Nat} {t : TGs} {n : Nat} (hc : X.calm = true) (h : PGs X es t)
    (hn : (assignEach es X.env).length = n := by rfl) (hst : (assignEach es X.env).findIdx? (·.1) = none := by rfl) : PG X (.Tuple es k pos) (zrS X.K n t) := by
  intro pins s σ H v u Q I r hw
  obtain ⟨a, xs, e1, hq, hl, hw⟩ := hw
  subst e1
  cases r
  obtain ⟨its, rv, ht, hz⟩ := I.tuple hq
  refine assign_Tuple_tuple (I.ok.hd hc) ht (by simp [hn, ← hl, rv.length]) hst fun h' hx => ?_
  have I1 : Inv X pins σ H { s with heap := h' } := I.kept (t' := s.toks) fun b o e => hx b o (Nat.ne_of_lt (Heap.lt_size e)) e
  exact h pins _ σ H xs _ Q I1 (by simpa using rv) hw
noncomputable def zpZ (te : TE) (g : TG) : TS := fun D σ H => te σ H fun x H1 => g x σ H1 D.nx
theorem zg9 {i : Nat} {x : Str} {e : Expr} {te : TE} {pos' : Pos} (hN : X.N.Nodup) (hi : X.N[i]? = some x) (hx : Loc X.env.scope x) (he : PE X e te) (hs : swapsWith e (some (.Name x pos')) pos.line X.env = pure false := by rfl) (hf : X.fn x = true ∨ X.env.scope.names.lookup x = some .local := by first | exact .inl rfl | exact .inr rfl | assumption) :
    PS X (.Assign [.Name x pos'] e pos) (zpZ te (zgy i)) := by
  intro pins s σ H D I h
  refine wpAny_Assign_Name (thn (he pins s σ H _ I h) fun v s1 ⟨y, H1, I1, r1, q1⟩ => ?_) hs
  exact zdT I1 hN hi hx r1 (fun s2 I2 => ⟨_, H1, I2, q1⟩) hf
end
structure It where
  go : Nat → Hp → Prop
  yld : Nat → Hp → V → Hp → Prop
  stop : Nat → Hp → Prop
noncomputable def zfz (X : Cx) (pins : List (Addr × Obj)) (H : Hp) (b : Addr) : Prop :=
  H b = none ∧ b ≠ X.env.locals ∧ b ∉ X.fs ∧ (b ∈ X.ex ∨ X.s₀.heap.objs.size ≤ b) ∧ (∀ x c, X.env.cells.lookup x = some c → c ≠ b) ∧ ∀ p ∈ X.pn ++ pins, p.1 ≠ b
theorem Inv.fpOk {X : Cx} {pins : List (Addr × Obj)} {σ : St} {H H' : Hp} {s : Shared} {b : Addr} (I : Inv X pins σ H s) (hb : s.heap.objs.size ≤ b) (hn : H' b = none) : zfz X pins H' b := by
  refine ⟨hn, Nat.ne_of_gt (Nat.lt_of_lt_of_le I.lt hb), I.nofs hb, .inr (Nat.le_trans I.sz hb), fun x c e z => ?_, fun p hp z => ?_⟩
  · obtain ⟨v, q⟩ := I.cell x c e
    exact absurd (Nat.lt_of_lt_of_le q.lt (by rw [z]; exact hb)) (Nat.lt_irrefl _)
  · exact absurd (Nat.lt_of_lt_of_le (Heap.lt_size (I.pin p hp).1) (by rw [z]; exact hb)) (Nat.lt_irrefl _)
structure Turn (P : Program) (w : World) (K : PySem.W.Frag) (tg : Expr) (J : It) (fp : List Addr) (it : Addr) (tn : Nat → Heap → Prop) : Prop where
  mem : it ∈ fp
  obj : ∀ i h, tn i h → ∀ b ∈ fp, ∃ o, h.get? b = some o ∧ ∀ v, o.data ≠ .cell v
  keep : ∀ i h h', tn i h → (∀ b ∈ fp, ∀ o, h.get? b = some o → h'.get? b = some o) → tn i h'
  item : ∀ (X : Cx), X.prog = P → X.w = w → X.K = K → X.calm = true → ∀ (i : Nat) (pins : List (Addr × Obj)) (s : Shared) (σ : St) (H : Hp) (E : Value → Shared → Prop), Inv X pins σ H s → (∀ b ∈ fp, zfz X pins H b) → tn i s.heap → J.go i H →
    wpAny (model P w) X.A (pyNext (.ref it)) (fun r s1 => ∃ u, r = some u ∧
      wpAny (model P w) X.A (letOwnedTupleGo tg (.ref it) u) (fun _ s2 => ∃ x H', Inv X pins σ H' s2 ∧ RelV x u ∧ J.yld i H x H' ∧ tn (i + 1) s2.heap ∧ ∀ b ∈ fp, H' b = none) E s1) E s
  done : ∀ (X : Cx), X.prog = P → X.w = w → X.K = K → X.calm = true → ∀ (i : Nat) (pins : List (Addr × Obj)) (s : Shared) (σ : St) (H : Hp) (E : Value → Shared → Prop), Inv X pins σ H s → (∀ b ∈ fp, zfz X pins H b) → tn i s.heap → J.stop i H →
    wpAny (model P w) X.A (pyNext (.ref it)) (fun r s1 => r = none ∧ Inv X pins σ H s1) E s
  self : ∀ (A : Around) (i : Nat) (s : Shared) (Q : Value → Shared → Prop) (E : Value → Shared → Prop), tn i s.heap → Q (.ref it) s → wpAny (model P w) A (pyIter (.ref it)) Q E s
noncomputable abbrev TI := St → Hp → (It → Hp → Prop) → Prop
noncomputable def PIE (X : Cx) (pins : List (Addr × Obj)) (σ : St) (tg : Expr) (R : It → Hp → Prop) (itv : Value) (s2 : Shared) : Prop :=
  ∃ (it : Addr) (fp : List Addr) (tn : Nat → Heap → Prop) (J : It) (H' : Hp), itv = .ref it ∧ Inv X pins σ H' s2 ∧ Turn X.prog X.w X.K tg J fp it tn ∧ tn 0 s2.heap ∧ (∀ b ∈ fp, zfz X pins H' b) ∧ R J H'
noncomputable def PI (X : Cx) (tg iter : Expr) (wi : TI) : Prop :=
  ∀ (pins : List (Addr × Obj)) (s : Shared) (σ : St) (H : Hp) (R : It → Hp → Prop), Inv X pins σ H s → wi σ H R →
    wpAny (model X.prog X.w) X.A (eval iter X.env) (fun v s1 => wpAny (model X.prog X.w) X.A (pyIter v) (PIE X pins σ tg R) X.xe s1) X.xe s
theorem zkn {M : Model} {A : Around} {E : Value → Shared → Prop} {s : Shared} {tg : Expr} {it : Addr} {u : Value} {o : Obj} {n : String} {vs : Array Value} {Q : Unit → Shared → Prop} (ho : s.heap.get? it = some o) (hc : o.cls = .type n) (hd : o.data = .fields vs)
    (hn : ["enumerate", "zip", "dict_itemiterator", "dict_reverseitemiterator", "odict_iterator", "itertools.zip_longest", "itertools.pairwise"].contains n = false) (hQ : Q () s) : wpAny M A (letOwnedTupleGo tg (.ref it) u) Q E s := by
  unfold letOwnedTupleGo
  cases tg <;> first
    | exact wpAny_pure hQ
    | (cases u <;> first
        | exact wpAny_pure hQ
        | (refine wpAny_bind (wpAny_load ho ?_)
           rw [hc, hd]
           show wpAny M A (if (["enumerate", "zip", "dict_itemiterator", "dict_reverseitemiterator", "odict_iterator", "itertools.zip_longest", "itertools.pairwise"].contains n && vs[0]? == some (rawInt _)) = true then _ else _) Q E s
           rw [if_neg (by intro h; rw [hn, Bool.false_and] at h; cases h)]
           exact wpAny_pure hQ))
noncomputable def Itl (K : PySem.W.Frag) (a : Addr) : It :=
  ⟨fun i H => ∃ xs x, SqL K H a xs ∧ xs[i]? = some x, fun i H x H' => H' = H ∧ ∀ xs, SqL K H a xs → xs[i]? = some x, fun i H => ∃ xs, SqL K H a xs ∧ xs.length ≤ i⟩
noncomputable def Itt (K : PySem.W.Frag) (a : Addr) : It :=
  ⟨fun i H => ∃ xs x, SqT K H a xs ∧ xs[i]? = some x, fun i H x H' => H' = H ∧ ∀ xs, SqT K H a xs → xs[i]? = some x, fun i H => ∃ xs, SqT K H a xs ∧ xs.length ≤ i⟩
noncomputable def Itr (lo : Int) (n : Nat) : It := ⟨fun i _ => i < n, fun i H x H' => H' = H ∧ x = .int (lo + i), fun i _ => n ≤ i⟩
theorem zha {P : Program} {w : World} {K : PySem.W.Frag} {tg : Expr} (a it : Addr) : Turn P w K tg (Itl K a) [it] it (fun i h => h.IsListIter it a i) where
  mem := by simp
  obj := fun i h st b hb => by
    have e : b = it := by simpa using hb
    subst e
    obtain ⟨o, e, c, d⟩ := st
    exact ⟨o, e, fun v z => by rw [d] at z; cases z⟩
  keep := fun i h h' st k => st.at fun o e => k it (by simp) o e
  item := by
    intro X hP hw hK hc i pins s σ H E I hf st hg
    subst hP hw hK
    obtain ⟨xs, x, hq, hx⟩ := hg
    obtain ⟨its, rv, p, hz⟩ := I.list hq
    obtain ⟨u, hu, ru⟩ := rv.get hx
    obtain ⟨f0, f1, f2, f3, f4, f5⟩ := hf it (by simp)
    refine wpAny_pyNext_list_item st p.isList (x := u) (by simpa using hu) fun h' st' sb => ?_
    have I1 : Inv X pins σ H { s with heap := h' } := I.turned (t' := s.toks) (fun b o hb e => (sb.2 b hb).trans e) f0 f1 f3 f4 f5
    obtain ⟨o, e, c, d⟩ := id st'
    exact ⟨u, rfl, zkn (s := { s with heap := h' }) e c d (by decide) ⟨x, H, I1, ru, ⟨rfl, fun ys hy => by rw [I.list_inj hy hq]; exact hx⟩, st', fun b hb => (hf b hb).1⟩⟩
  done := by
    intro X hP hw hK hc i pins s σ H E I hf st hg
    subst hP hw hK
    obtain ⟨xs, hq, hx⟩ := hg
    obtain ⟨its, rv, p, hz⟩ := I.list hq
    obtain ⟨f0, f1, f2, f3, f4, f5⟩ := hf it (by simp)
    have hl := rv.length
    exact wpAny_pyNext_list_end (I.ok.hd hc) st p.isList (by simp; omega) fun h' eb => ⟨rfl, I.turned (t' := s.toks) (fun b o hb e => eb b o hb e) f0 f1 f3 f4 f5⟩
  self := fun _ _ _ _ _ st h => wpAny_pyIter_listiter st h
theorem zgz {P : Program} {w : World} {K : PySem.W.Frag} {tg : Expr} (a it : Addr) : Turn P w K tg (Itt K a) [it] it (fun i h => h.IsTupleIter it a i) where
  mem := by simp
  obj := fun i h st b hb => by
    have e : b = it := by simpa using hb
    subst e
    obtain ⟨o, e, c, d⟩ := st
    exact ⟨o, e, fun v z => by rw [d] at z; cases z⟩
  keep := fun i h h' st k => st.at fun o e => k it (by simp) o e
  item := by
    intro X hP hw hK hc i pins s σ H E I hf st hg
    subst hP hw hK
    obtain ⟨xs, x, hq, hx⟩ := hg
    obtain ⟨its, rv, p, hz⟩ := I.tuple hq
    obtain ⟨u, hu, ru⟩ := rv.get hx
    obtain ⟨f0, f1, f2, f3, f4, f5⟩ := hf it (by simp)
    refine wpAny_pyNext_tuple_item st (show s.heap.IsTuple a its.toArray from p) (x := u) (by simpa using hu) fun h' st' sb => ?_
    have I1 : Inv X pins σ H { s with heap := h' } := I.turned (t' := s.toks) (fun b o hb e => (sb.2 b hb).trans e) f0 f1 f3 f4 f5
    obtain ⟨o, e, c, d⟩ := id st'
    exact ⟨u, rfl, zkn (s := { s with heap := h' }) e c d (by decide) ⟨x, H, I1, ru, ⟨rfl, fun ys hy => by rw [I.tuple_inj hy hq]; exact hx⟩, st', fun b hb => (hf b hb).1⟩⟩
  done := by
    intro X hP hw hK hc i pins s σ H E I hf st hg
    subst hP hw hK
    obtain ⟨xs, hq, hx⟩ := hg
    obtain ⟨its, rv, p, hz⟩ := I.tuple hq
    obtain ⟨f0, f1, f2, f3, f4, f5⟩ := hf it (by simp)
    have hl := rv.length
    exact wpAny_pyNext_tuple_end (I.ok.hd hc) st (show s.heap.IsTuple a its.toArray from p) (by simp; omega) fun h' eb => ⟨rfl, I.turned (t' := s.toks) (fun b o hb e => eb b o hb e) f0 f1 f3 f4 f5⟩
  self := fun _ _ _ _ _ st h => wpAny_pyIter_tupleiter st h
theorem zgA {P : Program} {w : World} {K : PySem.W.Frag} {tg : Expr} (it : Addr) (lo : Int) (n : Nat) : Turn P w K tg (Itr lo n) [it] it (fun i h => IsRangeIter h it (lo + (i : Nat) * 1) ((n : Int) - (i : Nat)) 1) where
  mem := by simp
  obj := fun i h st b hb => by
    have e : b = it := by simpa using hb
    subst e
    exact ⟨_, st, fun v z => by
      have z' : Data.fields _ = Data.cell v := z
      cases z'⟩
  keep := fun i h h' st k => k it (by simp) _ st
  item := by
    intro X hP hw hK hc i pins s σ H E I hf st hg
    subst hP hw hK
    obtain ⟨f0, f1, f2, f3, f4, f5⟩ := hf it (by simp)
    have W := Walks.range (prog := X.prog) (w := X.w) (I.ok.hd hc) it lo 1 n
    refine W.item i s _ _ hg st fun v h' tk hv st' kk => ?_
    obtain ⟨t, rfl⟩ := hv
    have I1 : Inv X pins σ H { s with heap := h', toks := tk } := I.turned (fun b o hb e => kk b o (by simpa using hb) e) f0 f1 f3 f4 f5
    refine ⟨_, rfl, zkn (s := { s with heap := h', toks := tk }) (n := "range_iterator") st' rfl rfl (by decide) ⟨.int (lo + i), H, I1, ⟨t, ?_⟩, ⟨rfl, rfl⟩, st', fun b hb => (hf b hb).1⟩⟩
    rw [Int.mul_one]
  done := by
    intro X hP hw hK hc i pins s σ H E I hf st hg
    subst hP hw hK
    obtain ⟨f0, f1, f2, f3, f4, f5⟩ := hf it (by simp)
    exact wpAny_pyNext_range_end (I.ok.hd hc) st (by have : n ≤ i := hg; omega) fun h' eb => ⟨rfl, I.turned (t' := s.toks) (fun b o hb e => eb b o hb e) f0 f1 f3 f4 f5⟩
  self := fun _ _ _ _ _ st h => wpAny_pyIter_rangeiter st h
end L2
namespace L2
open PySem PySem.Spec PyProof.Rows
section
variable {X : Cx} {tg : Expr}
theorem zf1 {pins : List (Addr × Obj)} {σ : St} {H : Hp} {s : Shared} {R : It → Hp → Prop} {E : Value → Shared → Prop} {lo hi : Int} {t u v : Tok} {tk : Nat} (I : Inv X pins σ H s) (h1 : -(2 ^ 62) ≤ lo) (h2 : lo < 2 ^ 62) (h3 : -(2 ^ 62) ≤ hi) (h4 : hi < 2 ^ 62)
    (q : R (Itr lo (hi - lo).toNat) H) : wpAny (model X.prog X.w) X.A (pyIter (.ref s.heap.objs.size)) (PIE X pins σ tg R) E { s with heap := s.heap.push { cls := .type "range", data := .fields #[.int lo t, .int hi u, .int 1 v] }, toks := tk } := by
  refine wpAny_pyIter_range (IsRange.new ..) (small_one h1 h2 h3 h4) ?_
  have I1 : Inv X pins σ H { s with heap := s.heap.push { cls := .type "range", data := .fields #[.int lo t, .int hi u, .int 1 v] }, toks := tk } := I.kept fun b o e => Heap.get?_push_of_some _ e
  refine ⟨(s.heap.push { cls := .type "range", data := .fields #[.int lo t, .int hi u, .int 1 v] }).objs.size, [(s.heap.push { cls := .type "range", data := .fields #[.int lo t, .int hi u, .int 1 v] }).objs.size], _, _, H, rfl,
    I1.kept (t' := tk) fun b o e => Heap.get?_push_of_some _ e, zgA _ lo (hi - lo).toNat, ?_, fun b hb => ?_, q⟩
  · have e1 : lo + ((0 : Nat) : Int) * 1 = lo := by simp
    have e2 : (((hi - lo).toNat : Nat) : Int) - ((0 : Nat) : Int) = Builtin.Range.rangeSize lo hi 1 := by rw [rangeSize_one]; split <;> omega
    show IsRangeIter _ _ (lo + ((0 : Nat) : Int) * 1) ((((hi - lo).toNat : Nat) : Int) - ((0 : Nat) : Int)) 1
    rw [e1, e2]
    exact Heap.get?_push_size _ rfl
  · have e : b = (s.heap.push { cls := .type "range", data := .fields #[.int lo t, .int hi u, .int 1 v] }).objs.size := by simpa using hb
    subst e
    exact I1.fpOk (Nat.le_refl _) (I1.hok.fresh (Nat.le_refl _))
noncomputable def zp0 (ta : TA) : TI := fun σ H R => ta σ H fun vs H1 => ∃ j : Int, vs = [.int j] ∧ -(2 ^ 62) ≤ j ∧ j < 2 ^ 62 ∧ R (Itr 0 j.toNat) H1
noncomputable def zp1 (ta : TA) : TI := fun σ H R => ta σ H fun vs H1 => ∃ i j : Int, vs = [.int i, .int j] ∧ (-(2 ^ 62) ≤ i ∧ i < 2 ^ 62 ∧ -(2 ^ 62) ≤ j ∧ j < 2 ^ 62) ∧ R (Itr i (j - i).toNat) H1
theorem zhb {a : Expr} {ta : TA} {p pos : Pos} (hg : Gl X "range") (hm : X.mg "range" = none) (ha : PA X [a] ta) (hs : starEach [a] X.env = [(false, eval a X.env)] := by rfl) : PI X tg (.Call (.Name "range" p) [a] [] pos) (zp0 ta) := by
  intro pins s σ H R I h
  refine Call_ (zdz I hg hm boot_range (PyProof.Rows.callWith_type1 (thn (ha pos pins s σ H _ I h) fun us s1 ⟨vs, H1, I1, r1, q1⟩ => ?_) hs rfl))
  obtain ⟨j, e, q1, q2, q⟩ := q1
  subst e
  cases r1 with
  | cons r rr =>
    cases rr
    obtain ⟨t, rfl⟩ := r
    exact call_range_1 (zf1 I1 (by omega) (by omega) q1 q2 (by simpa using q))
theorem zhc {a b : Expr} {ta : TA} {p pos : Pos} (hg : Gl X "range") (hm : X.mg "range" = none) (ha : PA X [a, b] ta) (hs : starEach [a, b] X.env = [(false, eval a X.env), (false, eval b X.env)] := by rfl) (hs2 : starEach [b] X.env = [(false, eval b X.env)] := by rfl) :
    PI X tg (.Call (.Name "range" p) [a, b] [] pos) (zp1 ta) := by
  intro pins s σ H R I h
  refine Call_ (zdz I hg hm boot_range (PyProof.Rows.callWith_type1 (thn (ha pos pins s σ H _ I h) fun us s1 ⟨vs, H1, I1, r1, q1⟩ => ?_) (by rw [hs, hs2]) (by rw [hs2]; rfl)))
  obtain ⟨i, j, e, ⟨q1, q2, q3, q4⟩, q⟩ := q1
  subst e
  cases r1 with
  | cons r rr =>
    cases rr with
    | cons r' rr =>
      cases rr
      obtain ⟨t, rfl⟩ := r
      obtain ⟨t', rfl⟩ := r'
      exact call_range_2 (zf1 I1 q1 q2 q3 q4 q)
noncomputable def zsG (wi : TI) (g : TG) (tb : TS) : TS := fun D σ H => wi σ H fun J H1 => ∃ W : Nat → Nat → St → Hp → Prop, (∃ m, W 0 m σ H1) ∧ ∀ i m σ H, W i m σ H →
  (J.stop i H ∧ D.nx σ H) ∨ (J.go i H ∧ ∃ N : St → Hp → Prop, (∀ σ' H', N σ' H' → ∃ m', m' < m ∧ W (i + 1) m' σ' H') ∧ ∀ x H', J.yld i H x H' → g x σ H' fun σ2 H2 => tb { D with nx := N, ct := N, bk := D.nx } σ2 H2)
noncomputable def zew (fp : List Addr) (h : Heap) : List (Addr × Obj) := fp.filterMap fun b => (h.get? b).map fun o => (b, o)
theorem zbC {fp : List Addr} {h : Heap} {b : Addr} {o : Obj} (hb : b ∈ fp) (e : h.get? b = some o) : (b, o) ∈ zew fp h := List.mem_filterMap.mpr ⟨b, hb, by rw [e]; rfl⟩
theorem zhd {fp : List Addr} {h : Heap} {p : Addr × Obj} (hp : p ∈ zew fp h) : p.1 ∈ fp ∧ h.get? p.1 = some p.2 := by
  obtain ⟨b, hb, e⟩ := List.mem_filterMap.mp hp
  cases q : h.get? b with
  | none => rw [q] at e; cases e
  | some o =>
    rw [q] at e
    have e' : (b, o) = p := Option.some.inj e
    subst e'
    exact ⟨hb, q⟩
theorem Inv.pinned {pins : List (Addr × Obj)} {σ : St} {H : Hp} {s : Shared} {fp : List Addr} (I : Inv X pins σ H s) (hf : ∀ b ∈ fp, zfz X pins H b) (ho : ∀ b ∈ fp, ∃ o, s.heap.get? b = some o ∧ ∀ v, o.data ≠ .cell v) : Inv X (pins ++ zew fp s.heap) σ H s :=
  I.pins_of fun p hp => (List.mem_append.mp hp).elim (fun z => I.pin p (List.mem_append_right _ z)) fun z => by
    obtain ⟨hb, e⟩ := zhd z
    obtain ⟨f0, f1, f2, _⟩ := hf p.1 hb
    obtain ⟨o, e', d⟩ := ho p.1 hb
    rw [e] at e'; cases e'
    exact ⟨e, f0, f1, f2, d⟩
theorem Inv.unpinned {pins pl : List (Addr × Obj)} {σ : St} {H : Hp} {s : Shared} (I : Inv X (pins ++ pl) σ H s) : Inv X pins σ H s := I.pins_of fun p hp => I.pin p (List.mem_append_right _ (List.mem_append_left _ hp))
theorem zl8 {iter : Expr} {body : List Stmt} {wi : TI} {g : TG} {tb : TS} {pos : Pos} (hp : PassesOwn (model X.prog X.w) X.A X.env X.xe) (hc : X.calm = true) (hi : PI X tg iter wi) (hg : PG X tg g) (hb : PSs X body tb)
    (hs : ∀ x, foldedSetIterable iter X.env x = pure x := by intro _; rfl) : PS X (.For tg iter body [] pos) (zsG wi g tb) := by
  intro pins s σ H D I h
  refine wpAny_For (thn (hi pins s σ H _ I h) fun v s1 h1 => thn h1 fun itv s2 h2 => ?_) hs
  obtain ⟨it, fp, tn, J, H2, e, I2, T, st2, f2, W, ⟨m0, w0⟩, turn⟩ := h2
  subst e
  have stat : ∀ {H' : Hp}, (∀ b ∈ fp, H' b = none) → ∀ b ∈ fp, zfz X pins H' b := fun hn b hb => ⟨hn b hb, (f2 b hb).2⟩
  refine codeAny_forLoop_any (fun n s' => ∃ i σ' H', Inv X pins σ' H' s' ∧ tn i s'.heap ∧ (∀ b ∈ fp, H' b = none) ∧ W i n σ' H') ?_ m0 ⟨0, σ, H2, I2, st2, fun b hb => (f2 b hb).1, w0⟩
  rintro n s3 ⟨i, σ3, H3, I3, st3, fr3, w3⟩
  rcases turn i n σ3 H3 w3 with ⟨stop, qn⟩ | ⟨go, N, hN, step⟩
  · refine wpAny_passesOwn hp (thn (T.done X rfl rfl rfl hc i pins s3 σ3 H3 X.xe I3 (stat fr3) st3 stop) fun r s4 ⟨hr, I4⟩ => ?_)
    subst hr
    exact wpAny_execs_nil ⟨σ3, H3, I4, qn⟩
  · refine wpAny_passesOwn hp (thn (T.item X rfl rfl rfl hc i pins s3 σ3 H3 X.xe I3 (stat fr3) st3 go) fun r s4 ⟨u, hr, h4⟩ => ?_)
    subst hr
    refine wpAny_passesOwn hp (thn h4 fun _ s5 ⟨x, H5, I5, r5, y5, st5, fr5⟩ => ?_)
    have I5' := I5.pinned (stat fr5) (T.obj _ _ st5)
    refine wpAny_passesOwn hp (thn (hg _ s5 σ3 H5 x u _ I5' r5 (step x H5 y5)) fun _ s6 ⟨σ6, H6, I6, q6⟩ => ?_)
    refine wpAny_passesOwn hp (thn (hb _ s6 σ6 H6 _ I6 q6) fun f s7 q7 => ?_)
    have again : ∀ {σ7 : St} {H7 : Hp}, Inv X (pins ++ zew fp s5.heap) σ7 H7 s7 → N σ7 H7 → ∃ m, m < n ∧ ∃ i σ' H', Inv X pins σ' H' s7 ∧ tn i s7.heap ∧ (∀ b ∈ fp, H' b = none) ∧ W i m σ' H' := fun {σ7 H7} I7 n7 => by
      obtain ⟨m', hm, w7⟩ := hN σ7 H7 n7
      refine ⟨m', hm, i + 1, σ7, H7, I7.unpinned, T.keep _ _ _ st5 fun b hb o e => (I7.pin (b, o) (List.mem_append_right _ (List.mem_append_right _ (zbC hb e)))).1, fun b hb => ?_, w7⟩
      obtain ⟨o, e, d⟩ := T.obj _ _ st5 b hb
      exact (I7.pin (b, o) (List.mem_append_right _ (List.mem_append_right _ (zbC hb e)))).2.1
    cases f with
    | next => obtain ⟨σ7, H7, I7, n7⟩ := q7; exact again I7 n7
    | cont => obtain ⟨σ7, H7, I7, n7⟩ := q7; exact again I7 n7
    | brk => obtain ⟨σ7, H7, I7, q7⟩ := q7; exact ⟨σ7, H7, I7.unpinned, q7⟩
    | ret v => obtain ⟨x7, σ7, H7, I7, r7, q7⟩ := q7; exact ⟨x7, σ7, H7, I7.unpinned, r7, q7⟩
end
end L2
namespace L2
open PySem PySem.Spec PyProof.Rows
noncomputable abbrev R2 := V → V → Hp → VK → Prop
noncomputable def OpR (X : Cx) (f : Value → Value → Sem Value) (r : R2) : Prop :=
  ∀ (pins : List (Addr × Obj)) (s : Shared) (σ : St) (H : Hp) (x y : V) (v u : Value) (Q : VK), Inv X pins σ H s → RelV x v → RelV y u → r x y H Q →
    wpAny (model X.prog X.w) X.A (f v u) (EP X pins σ Q) X.xe s
noncomputable def UnR (X : Cx) (f : Value → Sem Value) (r : V → Hp → VK → Prop) : Prop :=
  ∀ (pins : List (Addr × Obj)) (s : Shared) (σ : St) (H : Hp) (x : V) (v : Value) (Q : VK), Inv X pins σ H s → RelV x v → r x H Q →
    wpAny (model X.prog X.w) X.A (f v) (EP X pins σ Q) X.xe s
noncomputable def CallR (X : Cx) (f : Value) (r : List V → Hp → VK → Prop) : Prop :=
  ∀ (pins : List (Addr × Obj)) (s : Shared) (σ : St) (H : Hp) (xs : List V) (us : List Value) (Q : VK), Inv X pins σ H s → Vals xs us → r xs H Q →
    wpAny (model X.prog X.w) X.A (call f us) (EP X pins σ Q) X.xe s
noncomputable def zsH (X : Cx) (r : V → Hp → (Bool → Hp → Prop) → Prop) : Prop :=
  ∀ (pins : List (Addr × Obj)) (s : Shared) (σ : St) (H : Hp) (x : V) (v : Value) (Q : Bool → Hp → Prop), Inv X pins σ H s → RelV x v → r x H Q →
    wpAny (model X.prog X.w) X.A (truthy v) (TP X pins σ Q) X.xe s
noncomputable def tOp (r : R2) (ta tb : TE) : TE := fun σ H Q => ta σ H fun x H1 => tb σ H1 fun y H2 => r x y H2 Q
noncomputable def tUn (r : V → Hp → VK → Prop) (ta : TE) : TE := fun σ H Q => ta σ H fun x H1 => r x H1 Q
noncomputable def rI (C : Int → Int → Prop) (g : Int → Int → V) : R2 := fun x y H Q => ∃ i j, x = .int i ∧ y = .int j ∧ C i j ∧ Q (g i j) H
noncomputable def rI0 (g : Int → Int → V) : R2 := fun x y H Q => ∃ i j, x = .int i ∧ y = .int j ∧ Q (g i j) H
noncomputable def rU (g : Int → V) : V → Hp → VK → Prop := fun x H Q => ∃ i, x = .int i ∧ Q (g i) H
section
variable {X : Cx} {a b c : Expr} {ta tb tc : TE} {pos : Pos}
theorem zp2 (ha : PE X a ta) (hb : PE X b tb) {pins : List (Addr × Obj)} {s : Shared} {σ : St} {H : Hp} {R : V → V → Hp → Prop} (I : Inv X pins σ H s)
    (h : ta σ H fun x H1 => tb σ H1 fun y H2 => R x y H2) {Q : Value → Shared → Prop} {f : Value → Value → Sem Value}
    (hf : ∀ v u s2 x y H2, Inv X pins σ H2 s2 → RelV x v → RelV y u → R x y H2 → wpAny (model X.prog X.w) X.A (f v u) Q X.xe s2) :
    wpAny (model X.prog X.w) X.A (eval a X.env) (fun v s₁ => wpAny (model X.prog X.w) X.A (eval b X.env) (fun u s₂ => wpAny (model X.prog X.w) X.A (f v u) Q X.xe s₂) X.xe s₁) X.xe s := by
  refine thn (ha pins s σ H _ I h) fun v s1 ⟨x, H1, I1, r1, q1⟩ => ?_
  refine thn (hb pins s1 σ H1 _ I1 q1) fun u s2 ⟨y, H2, I2, r2, q2⟩ => ?_
  exact hf v u s2 x y H2 I2 r1 r2 q2
theorem zl9 {op : Operator} {r : R2} (ho : OpR X (binaryOp op) r) (ha : PE X a ta) (hb : PE X b tb) : PE X (.BinOp a op b pos) (tOp r ta tb) := by
  intro pins s σ H Q I h
  exact wpAny_BinOp (zp2 ha hb I h fun v u s2 x y H2 I2 rx ry q => ho pins s2 σ H2 x y v u Q I2 rx ry q)
theorem zp3 {op : UnaryOp} {r : V → Hp → VK → Prop} (ho : UnR X (unaryOp op) r) (ha : PE X a ta) : PE X (.UnaryOp op a pos) (tUn r ta) := by
  intro pins s σ H Q I h
  exact UnaryOp_ (thn (ha pins s σ H _ I h) fun v s1 ⟨x, H1, I1, r1, q1⟩ => ho pins s1 σ H1 x v Q I1 r1 q1)
theorem opI {f : Value → Value → Sem Value} {C : Int → Int → Prop} {g : Int → Int → Int}
    (rule : ∀ (i j : Int) (t u : Tok) (s : Shared) (Q : Value → Shared → Prop) (E : Value → Shared → Prop), C i j → Q (.int (g i j) s.toks) { s with toks := s.toks + 1 } → wpAny (model X.prog X.w) X.A (f (.int i t) (.int j u)) Q E s) :
    OpR X f (rI C fun i j => .int (g i j)) := by
  intro pins s σ H x y v u Q I rx ry h
  obtain ⟨i, j, rfl, rfl, hc, q⟩ := h
  obtain ⟨t, rfl⟩ := rx
  obtain ⟨t', rfl⟩ := ry
  exact rule i j t t' s _ _ hc ⟨.int (g i j), H, I.tok _, ⟨_, rfl⟩, q⟩
theorem zrT {f : Value → Value → Sem Value} {g : Int → Int → Int}
    (rule : ∀ (i j : Int) (t u : Tok) (s : Shared) (Q : Value → Shared → Prop) (E : Value → Shared → Prop), Q (.int (g i j) s.toks) { s with toks := s.toks + 1 } → wpAny (model X.prog X.w) X.A (f (.int i t) (.int j u)) Q E s) :
    OpR X f (rI0 fun i j => .int (g i j)) := by
  intro pins s σ H x y v u Q I rx ry h
  obtain ⟨i, j, rfl, rfl, q⟩ := h
  obtain ⟨t, rfl⟩ := rx
  obtain ⟨t', rfl⟩ := ry
  exact rule i j t t' s _ _ ⟨.int (g i j), H, I.tok _, ⟨_, rfl⟩, q⟩
theorem zp4 {f : Value → Value → Sem Value} {g : Int → Int → Bool}
    (rule : ∀ (i j : Int) (t u : Tok) (s : Shared) (Q : Value → Shared → Prop) (E : Value → Shared → Prop), Q (.bool (g i j)) s → wpAny (model X.prog X.w) X.A (f (.int i t) (.int j u)) Q E s) :
    OpR X f (rI0 fun i j => .bl (g i j)) := by
  intro pins s σ H x y v u Q I rx ry h
  obtain ⟨i, j, rfl, rfl, q⟩ := h
  obtain ⟨t, rfl⟩ := rx
  obtain ⟨t', rfl⟩ := ry
  exact rule i j t t' s _ _ ⟨.bl (g i j), H, I, rfl, q⟩
noncomputable def CMul (i j : Int) : Prop := (-(2 ^ 64) < i ∧ i < 2 ^ 64) ∨ (-(2 ^ 64) < j ∧ j < 2 ^ 64)
theorem CMul.ok {i j : Int} (h : CMul i j) : IntMulOk i j := by
  rcases h with ⟨h1, h2⟩ | ⟨h1, h2⟩
  · exact .of_left (intBits_le_64 h1 h2)
  · exact .of_right (intBits_le_64 h1 h2)
theorem zma : OpR X (binaryOp .Add) (rI0 fun i j => .int (i + j)) := zrT fun _ _ _ _ _ _ _ q => add_int q
theorem zmb : OpR X (binaryOp .Sub) (rI0 fun i j => .int (i - j)) := zrT fun _ _ _ _ _ _ _ q => sub_int q
theorem zmc : OpR X (binaryOp .Mod) (rI (fun _ j => 0 < j) fun i j => .int (i % j)) := opI fun i j _ _ _ _ _ hc q => by
  have h1 : (0 : Int) < j := hc
  exact mod_int' (by omega) (by rw [Int.fmod_eq_emod_of_nonneg i (by omega)]; exact q)
theorem unI {f : Value → Sem Value} {g : Int → Int}
    (rule : ∀ (i : Int) (t : Tok) (s : Shared) (Q : Value → Shared → Prop) (E : Value → Shared → Prop), Q (.int (g i) s.toks) { s with toks := s.toks + 1 } → wpAny (model X.prog X.w) X.A (f (.int i t)) Q E s) :
    UnR X f (rU fun i => .int (g i)) := by
  intro pins s σ H x v Q I rx h
  obtain ⟨i, rfl, q⟩ := h
  obtain ⟨t, rfl⟩ := rx
  exact rule i t s _ _ ⟨.int (g i), H, I.tok _, ⟨_, rfl⟩, q⟩
theorem zmd : UnR X (unaryOp .USub) (rU fun i => .int (-i)) := unI fun _ _ _ _ _ q => neg_int q
end
noncomputable def zrU : V → V → Bool
  | .non, .non => true | .non, .int _ => true | .int _, .non => true | .non, .bl _ => true | .bl _, .non => true | .non, .str _ => true | .str _, .non => true
  | .int _, .int _ => true | .bl _, .bl _ => true | .str _, .str _ => true | .byt _, .byt _ => true
  | .int _, .str _ => true | .str _, .int _ => true | .bl _, .str _ => true | .str _, .bl _ => true
  | _, _ => false
noncomputable def rEq : R2 := fun x y H Q => zrU x y = true ∧ Q (.bl (decide (x = y))) H
noncomputable def rNe : R2 := fun x y H Q => zrU x y = true ∧ Q (.bl (!decide (x = y))) H
theorem zhe {i j : Int} : decide (V.int i = V.int j) = (i == j) := by
  rw [Bool.eq_iff_iff]
  simp
theorem zjY {i j : Bool} : decide (V.bl i = V.bl j) = (i == j) := by
  rw [Bool.eq_iff_iff]
  simp
theorem zhf {i j : Str} : decide (V.str i = V.str j) = (i == j) := by
  rw [Bool.eq_iff_iff]
  simp
theorem zhg {i j : Array UInt8} : decide (V.byt i = V.byt j) = (i.toList == j.toList) := by
  rw [Bool.eq_iff_iff]
  cases i
  cases j
  simp
section
variable {X : Cx} {a b c : Expr} {ta tb tc : TE} {pos : Pos}
theorem zaA {pins : List (Addr × Obj)} {σ : St} {H : Hp} {s : Shared} {Q : VK} {k k' : Bool} (I : Inv X pins σ H s) (q : Q (.bl k) H) (e : k = k') : EP X pins σ Q (.bool k') s := by
  subst e
  exact ⟨.bl k, H, I, rfl, q⟩
theorem zp5 : OpR X (compareOp .Eq) rEq := by
  intro pins s σ H x y v u Q I rx ry h
  obtain ⟨hs, q⟩ := h
  cases x with
  | non =>
    cases rx
    cases y with
    | non => cases ry; exact PySem.EqNone.eq_none_none (zaA I q (by simp))
    | bl j => cases ry; exact PySem.EqNone.eq_none_bool (zaA I q (by simp))
    | int j => obtain ⟨t', rfl⟩ := ry; exact PySem.EqNone.eq_none_int (zaA I q (by simp))
    | str j => obtain ⟨t', rfl⟩ := ry; exact PySem.EqNone.eq_none_str (zaA I q (by simp))
    | _ => exact absurd (show false = true from hs) Bool.false_ne_true
  | bl i =>
    cases rx
    cases y with
    | non => cases ry; exact PySem.EqNone.eq_bool_none (zaA I q (by simp))
    | bl j => cases ry; exact eq_bool (zaA I q zjY)
    | str j => obtain ⟨t', rfl⟩ := ry; exact PySem.EqMixed.eq_bool_str (zaA I q (by simp))
    | _ => exact absurd (show false = true from hs) Bool.false_ne_true
  | int i =>
    obtain ⟨t, rfl⟩ := rx
    cases y with
    | non => cases ry; exact PySem.EqNone.eq_int_none (zaA I q (by simp))
    | int j => obtain ⟨t', rfl⟩ := ry; exact eq_int (zaA I q zhe)
    | str j => obtain ⟨t', rfl⟩ := ry; exact PySem.EqMixed.eq_int_str (zaA I q (by simp))
    | _ => exact absurd (show false = true from hs) Bool.false_ne_true
  | str i =>
    obtain ⟨t, rfl⟩ := rx
    cases y with
    | non => cases ry; exact PySem.EqNone.eq_str_none (zaA I q (by simp))
    | bl j => cases ry; exact PySem.EqMixed.eq_str_bool (zaA I q (by simp))
    | int j => obtain ⟨t', rfl⟩ := ry; exact PySem.EqMixed.eq_str_int (zaA I q (by simp))
    | str j => obtain ⟨t', rfl⟩ := ry; exact eq_str (zaA I q zhf)
    | _ => exact absurd (show false = true from hs) Bool.false_ne_true
  | byt i =>
    obtain ⟨t, rfl⟩ := rx
    cases y with
    | byt j => obtain ⟨t', rfl⟩ := ry; exact PySem.W.eq_bytes (zaA I q zhg)
    | _ => exact absurd (show false = true from hs) Bool.false_ne_true
  | _ => cases y <;> exact absurd (show false = true from hs) Bool.false_ne_true
theorem zp6 : OpR X (compareOp .NotEq) rNe := by
  intro pins s σ H x y v u Q I rx ry h
  obtain ⟨hs, q⟩ := h
  cases x with
  | non =>
    cases rx
    cases y with
    | non => cases ry; exact PySem.EqNone.ne_none_none (zaA I q (by simp))
    | bl j => cases ry; exact PySem.EqNone.ne_none_bool (zaA I q (by simp))
    | int j => obtain ⟨t', rfl⟩ := ry; exact PySem.EqNone.ne_none_int (zaA I q (by simp))
    | str j => obtain ⟨t', rfl⟩ := ry; exact PySem.EqNone.ne_none_str (zaA I q (by simp))
    | _ => exact absurd (show false = true from hs) Bool.false_ne_true
  | bl i =>
    cases rx
    cases y with
    | non => cases ry; exact PySem.EqNone.ne_bool_none (zaA I q (by simp))
    | bl j => cases ry; exact ne_bool (zaA I q (congrArg not zjY))
    | str j => obtain ⟨t', rfl⟩ := ry; exact PySem.EqMixed.ne_bool_str (zaA I q (by simp))
    | _ => exact absurd (show false = true from hs) Bool.false_ne_true
  | int i =>
    obtain ⟨t, rfl⟩ := rx
    cases y with
    | non => cases ry; exact PySem.EqNone.ne_int_none (zaA I q (by simp))
    | int j => obtain ⟨t', rfl⟩ := ry; exact ne_int (zaA I q (congrArg not zhe))
    | str j => obtain ⟨t', rfl⟩ := ry; exact PySem.EqMixed.ne_int_str (zaA I q (by simp))
    | _ => exact absurd (show false = true from hs) Bool.false_ne_true
  | str i =>
    obtain ⟨t, rfl⟩ := rx
    cases y with
    | non => cases ry; exact PySem.EqNone.ne_str_none (zaA I q (by simp))
    | bl j => cases ry; exact PySem.EqMixed.ne_str_bool (zaA I q (by simp))
    | int j => obtain ⟨t', rfl⟩ := ry; exact PySem.EqMixed.ne_str_int (zaA I q (by simp))
    | str j => obtain ⟨t', rfl⟩ := ry; exact ne_str (zaA I q (congrArg not zhf))
    | _ => exact absurd (show false = true from hs) Bool.false_ne_true
  | byt i =>
    obtain ⟨t, rfl⟩ := rx
    cases y with
    | byt j => obtain ⟨t', rfl⟩ := ry; exact PySem.W.ne_bytes (zaA I q (congrArg not zhg))
    | _ => exact absurd (show false = true from hs) Bool.false_ne_true
  | _ => cases y <;> exact absurd (show false = true from hs) Bool.false_ne_true
theorem zp7 : OpR X (compareOp .Lt) (rI0 fun i j => .bl (decide (i < j))) := zp4 fun _ _ _ _ _ _ _ q => lt_int q
theorem zp8 : OpR X (compareOp .LtE) (rI0 fun i j => .bl (decide (i ≤ j))) := zp4 fun _ _ _ _ _ _ _ q => le_int q
theorem zp9 : OpR X (compareOp .Gt) (rI0 fun i j => .bl (decide (j < i))) := zp4 fun _ _ _ _ _ _ _ q => gt_int q
noncomputable def zqa : HO → Bool
  | .lst _ => true
  | .ins _ _ _ => true
  | _ => false
theorem obj_there {pins : List (Addr × Obj)} {s : Shared} {σ : St} {H : Hp} {a : Addr} {o : HO} (I : Inv X pins σ H s) (h : H a = some o) (p : zqa o = true) : ∃ ob, s.heap.get? a = some ob ∧ ob.cls ≠ .type "tuple" := by
  cases o with
  | lst xs =>
    obtain ⟨_, its, n, _, e⟩ : xs.length ≤ sizeLine ∧ ∃ (its : List Value) (n : Nat), Vals xs its ∧ s.heap.get? a = some { cls := .type "list", data := .seq its.toArray n } := I.hok a _ h
    exact ⟨_, e, (by show Value.type "list" ≠ .type "tuple"; decide +kernel)⟩
  | ins C dx fs =>
    have x := I.hok a _ h
    obtain ⟨_, _, _, e, _⟩ := x
    exact ⟨_, e, (by show Value.ref C ≠ .type "tuple"; exact fun z => by cases z)⟩
  | _ => exact absurd (show false = true from p) Bool.false_ne_true
theorem OpR.or {f : Value → Value → Sem Value} {r r' : R2} (h : OpR X f r) (h' : OpR X f r') : OpR X f (fun x y H Q => r x y H Q ∨ r' x y H Q) := by
  intro pins s σ H x y v u Q I rx ry q
  rcases q with q | q
  · exact h pins s σ H x y v u Q I rx ry q
  · exact h' pins s σ H x y v u Q I rx ry q
theorem zbe (b : Expr) {op : CmpOp} (h : op ≠ .In := by decide) (h2 : op ≠ .NotIn := by decide) : behindInMarks op b = false := by
  have e1 : (op == CmpOp.In) = false := by cases op <;> first | rfl | exact absurd rfl h
  have e2 : (op == CmpOp.NotIn) = false := by cases op <;> first | rfl | exact absurd rfl h2
  cases b <;> simp [behindInMarks, e1, e2]
theorem zko {op : CmpOp} {r : R2} (ho : OpR X (compareOp op) r) (ha : PE X a ta) (hb : PE X b tb) (hm : behindInMarks op b = false) : PE X (.Compare a [op] [b] pos) (tOp r ta tb) := by
  intro pins s σ H Q I h
  exact wpAny_Compare1 (zp2 ha hb I h fun v u s2 x y H2 I2 rx ry q => ho pins s2 σ H2 x y v u Q I2 rx ry q) hm
noncomputable def zme (t : TE) : TT := fun σ H Q => t σ H fun x H' => ∃ k, x = .bl k ∧ Q k H'
theorem zkp {op : CmpOp} {r : R2} (ho : OpR X (compareOp op) r) (ha : PE X a ta) (hb : PE X b tb) (hm : behindInMarks op b = false) : PT X (.Compare a [op] [b] pos) (zme (tOp r ta tb)) := by
  intro pins s σ H Q I h
  refine wpAny_isTrue_Compare1 (thn (ha pins s σ H _ I h) fun v s1 ⟨x, H1, I1, r1, q1⟩ => thn (hb pins s1 σ H1 _ I1 q1) fun u s2 ⟨y, H2, I2, r2, q2⟩ =>
    thn (ho pins s2 σ H2 x y v u _ I2 r1 r2 q2) fun c s3 ⟨z, H3, I3, r3, k, e, q3⟩ => ?_) hm
  subst e
  cases r3
  exact wpAny_truthy_bool ⟨H3, I3, q3⟩
noncomputable def zjZ (r r' : R2) (ta tb tc : TE) : TE := fun σ H Q => ta σ H fun x H1 => tb σ H1 fun y H2 => r x y H2 fun z H3 => ∃ k, z = .bl k ∧
  (if k = true then tc σ H3 fun w' H4 => r' y w' H4 Q else Q (.bl false) H3)
theorem ziF {op op' : CmpOp} {r r' : R2} (ho : OpR X (compareOp op) r) (ho' : OpR X (compareOp op') r') (ha : PE X a ta) (hb : PE X b tb) (hc : PE X c tc)
    (hm : lastMarks [op, op'] [b, c] = false := by with_unfolding_all rfl) : PE X (.Compare a [op, op'] [b, c] pos) (zjZ r r' ta tb tc) := by
  intro pins s σ H Q I h
  refine Compare_chain (thn (ha pins s σ H _ I h) fun v s1 ⟨x, H1, I1, r1, q1⟩ => chain_link (thn (hb pins s1 σ H1 _ I1 q1) fun u s2 ⟨y, H2, I2, r2, q2⟩ =>
    thn (ho pins s2 σ H2 x y v u _ I2 r1 r2 q2) fun d s3 ⟨z, H3, I3, r3, k, e, q3⟩ => ?_)) hm
  subst e
  cases r3
  refine wpAny_truthy_bool ?_
  cases k with
  | false => exact ite_ff ⟨.bl false, H3, I3, rfl, q3⟩
  | true => exact ite_tt (chain_last (thn (hc pins s3 σ H3 _ I3 q3) fun w' s4 ⟨z', H4, I4, r4, q4⟩ => ho' pins s4 σ H4 y z' u w' Q I4 r2 r4 q4))
theorem ziG {op op' : CmpOp} {r r' : R2} (ho : OpR X (compareOp op) r) (ho' : OpR X (compareOp op') r') (ha : PE X a ta) (hb : PE X b tb) (hc : PE X c tc)
    (hm : lastMarks [op, op'] [b, c] = false := by with_unfolding_all rfl) : PT X (.Compare a [op, op'] [b, c] pos) (zme (zjZ r r' ta tb tc)) := by
  intro pins s σ H Q I h
  refine isTrue_chain (thn (ha pins s σ H _ I h) fun v s1 ⟨x, H1, I1, r1, q1⟩ => test_link (thn (hb pins s1 σ H1 _ I1 q1) fun u s2 ⟨y, H2, I2, r2, q2⟩ =>
    thn (ho pins s2 σ H2 x y v u _ I2 r1 r2 q2) fun d s3 ⟨z, H3, I3, r3, k, e, q3⟩ => ?_)) hm
  subst e
  cases r3
  refine wpAny_truthy_bool ?_
  cases k with
  | false =>
    obtain ⟨k', e', q'⟩ := q3
    cases e'
    exact ite_ff ⟨H3, I3, q'⟩
  | true =>
    refine ite_tt (test_last (thn (hc pins s3 σ H3 _ I3 q3) fun w' s4 ⟨z', H4, I4, r4, q4⟩ => thn (ho' pins s4 σ H4 y z' u w' _ I4 r2 r4 q4) fun d' s5 ⟨z2, H5, I5, r5, k2, e2, q5⟩ => ?_))
    subst e2
    cases r5
    exact wpAny_truthy_bool ⟨H5, I5, q5⟩
noncomputable def zqb (K : PySem.W.Frag) (x : V) (H : Hp) (k : Bool) : Prop :=
  match x with
  | .non => k = false
  | .bl b => k = b
  | .int i => k = (i != 0)
  | .str y => y.length ≤ sizeLine ∧ k = ((y.length : Int) != 0)
  | .byt y => y.size ≤ sizeLine ∧ k = ((y.size : Int) != 0)
  | .ref p => (∃ xs, SqL K H p xs ∧ k = !xs.isEmpty) ∨ (∃ xs, SqT K H p xs ∧ k = !xs.isEmpty) ∨ ∃ kvs, H p = some (.dK kvs) ∧ k = !kvs.isEmpty
  | _ => False
theorem zgB {κ : Type} {kvs : List (κ × V)} {vs : List (κ × Value)} (r : KV kvs vs) : (!vs.isEmpty) = !kvs.isEmpty := by
  cases r <;> rfl
theorem zdA {xs : List V} {its : List Value} (r : Vals xs its) : (!its.toArray.isEmpty) = !xs.isEmpty := by
  cases r <;> simp
theorem zf2 : (sizeLine : Nat) < 2 ^ 63 := by rw [sizeLine_eq]; decide
theorem zmf : zsH X (fun x H Q => ∃ k, zqb X.K x H k ∧ Q k H) := by
  intro pins s σ H x v Q I rx h
  obtain ⟨k, e, q⟩ := h
  have hl := zf2
  have hs : sizeLine = 16777216 := sizeLine_eq
  cases x with
  | non =>
    cases rx
    have e' : k = false := e
    subst e'
    exact truthy_none ⟨H, I, q⟩
  | bl b =>
    cases rx
    have e' : k = b := e
    subst e'
    exact wpAny_truthy_bool ⟨H, I, q⟩
  | int i =>
    obtain ⟨t, rfl⟩ := rx
    have e' : k = (i != 0) := e
    subst e'
    exact PySem.P.truthy_int ⟨H, I, q⟩
  | str y =>
    obtain ⟨t, rfl⟩ := rx
    obtain ⟨hy, e'⟩ : y.length ≤ sizeLine ∧ k = ((y.length : Int) != 0) := e
    subst e'
    exact PySem.P.truthy_str (by omega) ⟨H, I.tok _, q⟩
  | byt y =>
    obtain ⟨t, rfl⟩ := rx
    obtain ⟨hy, e'⟩ : y.size ≤ sizeLine ∧ k = ((y.size : Int) != 0) := e
    subst e'
    exact PySem.W.truthy_bytes (by omega) ⟨H, I.tok _, q⟩
  | ref p =>
    cases rx
    have e' : (∃ xs, SqL X.K H p xs ∧ k = !xs.isEmpty) ∨ (∃ xs, SqT X.K H p xs ∧ k = !xs.isEmpty) ∨ ∃ kvs, H p = some (.dK kvs) ∧ k = !kvs.isEmpty := e
    rcases e' with ⟨xs, hx, e'⟩ | ⟨xs, hx, e'⟩ | ⟨kvs, hx, e'⟩
    · subst e'
      obtain ⟨its, r, pl, hz⟩ := I.list hx
      have hlen := r.length
      exact wpAny_truthy_list pl.isList (by simp only [List.size_toArray]; omega) ⟨H, I.tok _, by rw [zdA r]; exact q⟩
    · subst e'
      obtain ⟨its, r, pl, hz⟩ := I.tuple hx
      have hlen := r.length
      exact truthy_tuple pl (by simp only [List.size_toArray]; omega) ⟨H, I.tok _, by rw [zdA r]; exact q⟩
    · subst e'
      obtain ⟨hz, hS, vs, r, m⟩ : kvs.length ≤ sizeLine ∧ (p == sysModules) = false ∧ ∃ vs, KV kvs vs ∧ s.heap.DictOf (za6 X.prog X.w) p vs := I.hok p _ hx
      have hlen : kvs.length = vs.length := Paired.length r
      exact wpAny_truthy_dict hS m (by omega) ⟨H, I.tok _, by rw [zgB r]; exact q⟩
  | _ => exact (show False from e).elim
theorem ziH (ha : PE X a ta) (he : ∀ whole, isTrue a X.env whole = (do let v ← whole; standAt a.pos; holding [v] (truthy v))) :
    PT X a (fun σ H Q => ta σ H fun x H' => ∃ k, zqb X.K x H' k ∧ Q k H') := by
  intro pins s σ H Q I h
  exact isTrue_plain (thn (ha pins s σ H _ I h) fun v s1 ⟨x, H1, I1, r1, q1⟩ => zmf pins s1 σ H1 x v Q I1 r1 q1) (he _)
theorem zgC : OpR X (binaryOp .Add) (fun x y H Q => ∃ i j, x = .str i ∧ y = .str j ∧ i.length + j.length ≤ sizeLine ∧ Q (.str (i ++ j)) H) := by
  intro pins s σ H x y v u Q I rx ry h
  obtain ⟨i, j, rfl, rfl, hz, q⟩ := h
  obtain ⟨t, rfl⟩ := rx
  obtain ⟨t', rfl⟩ := ry
  exact add_str (fun t' tk => ⟨.str (i ++ j), H, I.tok _, ⟨_, rfl⟩, q⟩) hz
theorem zfA {x : V} {us : List Value} (r : Vals [x] us) : ∃ u, us = [u] ∧ RelV x u := by
  cases r with
  | cons r1 r2 => cases r2; exact ⟨_, rfl, r1⟩
theorem zqc {x y : V} {us : List Value} (r : Vals [x, y] us) : ∃ u w', us = [u, w'] ∧ RelV x u ∧ RelV y w' := by
  cases r with
  | cons r1 r2 =>
    cases r2 with
    | cons r3 r4 => cases r4; exact ⟨_, _, rfl, r1, r3⟩
end
end L2
namespace L2
open PySem PySem.Spec PyProof.Rows
structure ObjM (h : Heap) (x dx C : Addr) (mA : Str → Option Value) : Prop where
  obj : h.get? x = some (PySem.W.instObj C dx)
  ns : h.Ns1 dx mA
  ne : dx ≠ x
theorem zhh {h : Heap} {dx : Addr} {mA : Str → Option Value} (n : h.Ns1 dx mA) : ∃ od, h.get? dx = some od ∧ ∀ name, PySem.W.lookIn name od = some (mA name) := by
  obtain ⟨o, es, ep, ho, hd, hk, _, hm⟩ := n
  refine ⟨o, ho, fun name => ?_⟩
  have e := hm name
  unfold nsFind findBy at e
  rw [← Array.find?_toList] at e
  unfold PySem.W.lookIn
  rw [hd]
  dsimp only
  split
  · rename_i y q
    rw [q] at e
    exact congrArg some e
  · rename_i q
    rw [q] at e
    have a : es.toList.any (·.refKey) = false := by
      rw [List.any_eq_false]
      intro y hy
      obtain ⟨z, t, hkey⟩ := hk y (Array.mem_toList_iff.mp hy)
      simp [DictEntry.refKey, hkey]
    have a' : ¬ es.toList.any (·.refKey) = true := by rw [a]; exact Bool.false_ne_true
    rw [if_neg a']
    exact congrArg some e
theorem ObjM.look {h : Heap} {x dx C : Addr} {mA : Str → Option Value} (I : ObjM h x dx C mA) : ∃ od, PySem.W.InstAt h x (PySem.W.instObj C dx) C (some od) ∧ ∀ name, PySem.W.lookIn name od = some (mA name) :=
  let ⟨od, ho, hl⟩ := zhh I.ns
  ⟨od, ⟨I.obj, rfl, rfl, ho⟩, hl⟩
theorem RelO.some_of {v : V} {o : Option Value} (r : RelO (some v) o) : ∃ u, o = some u ∧ RelV v u := by
  cases o with
  | none => exact (show False from r).elim
  | some u => exact ⟨u, rfl, r⟩
structure Cls (K : PySem.W.Frag) (C : Addr) : Prop where
  pg : PySem.W.plainGet K C Str.empty = true
  hd : PySem.W.hasDictIn K C = true
  po : PySem.W.plainOver K C = true
  sa : PySem.W.findIn K (.ref C) "__setattr__" = some (some (.builtin "object.__setattr__"))
theorem Cls.get {K : PySem.W.Frag} {C : Addr} (c : Cls K C) (f : Str) : PySem.W.plainGet K C f = true := c.pg
end L2
namespace L2
open PySem PySem.Spec PyProof.Rows
structure Room (k : Nat) (A : Around) : Prop where
  hd : A.handled = none
  dp : A.depth + 3 * k + 5 < recursionLimit
  un : A.units + 16 * k + 200 < cLine
theorem Room.deeper {k : Nat} {A : Around} (r : Room (k + 1) A) (env : Env) : Room k (A.deeper env) :=
  ⟨r.hd, by have := r.dp; show A.depth + 1 + 3 * k + 5 < _; omega, by have := r.un; show A.units + 3 + 16 * k + 200 < _; omega⟩
theorem Room.in1 {k : Nat} {A : Around} (r : Room (k + 1) A) : Room k A.in1 :=
  ⟨r.hd, by have := r.dp; show A.depth + 3 * k + 5 < _; omega, by have := r.un; show A.units + 1 + 16 * k + 200 < _; omega⟩
theorem Room.depth {k : Nat} {A : Around} (r : Room k A) : A.depth < recursionLimit := by have := r.dp; omega
theorem Room.units {k : Nat} {A : Around} (r : Room k A) : A.units + 64 < cLine := by have := r.un; omega
noncomputable def zrV : TA := fun _ H Q => Q [] H
noncomputable def zmg (ta : TE) (tr : TA) : TA := fun σ H Q => ta σ H fun x H1 => tr σ H1 fun xs H2 => Q (x :: xs) H2
section
variable {X : Cx} {e : Expr} {es : List Expr} {te : TE} {t : TA} {pos : Pos}
theorem zbY : PA X [] zrV := fun _ _ _ _ H Q I h => Calls.spliced_nil ⟨[], H, I, .nil, h⟩
theorem za3 (ha : PE X e te) (hr : PA X es t) (hs : starEach (e :: es) X.env = (false, eval e X.env) :: starEach es X.env := by rfl) : PA X (e :: es) (zmg te t) := by
  intro pos pins s σ H Q I h
  rw [hs]
  show wpAny _ _ (spliced ((false, eval e X.env) :: backTo pos (starEach es X.env))) _ _ s
  refine Calls.spliced_cons (thn (ha pins s σ H _ I h) fun u s1 ⟨x, H1, I1, r1, q1⟩ => ?_)
  exact thn (hr pos pins s1 σ H1 _ I1 q1) fun us s2 ⟨xs, H2, I2, r2, q2⟩ => ⟨x :: xs, H2, I2, .cons r1 r2, q2⟩
noncomputable def zsI (t : TA) : TE := fun σ H Q => t σ H fun xs H1 => xs.length ≤ sizeLine ∧ ∀ p, H1 p = none → Q (.ref p) (upd H1 p (.tup xs))
noncomputable def zqd (t : TA) : TE := fun σ H Q => t σ H fun xs H1 => xs.length ≤ sizeLine ∧ ∀ p, H1 p = none → Q (.ref p) (upd H1 p (.lst xs))
theorem zmh {x1} (h : PA X es t) : PE X (.Tuple es x1 pos) (zsI t) := by
  intro pins s σ H Q I hq
  refine wpAny_Tuple_spliced (thn (h pos pins s σ H _ I hq) fun us s1 ⟨xs, H1, I1, r, z, q⟩ => ⟨by rw [← r.length]; exact z, ?_⟩)
  have hf : H1 s1.heap.objs.size = none := I1.hok.fresh (Nat.le_refl _)
  refine ⟨.ref s1.heap.objs.size, upd H1 s1.heap.objs.size (.tup xs), I1.laid (t' := s1.toks) (fun b u e => Heap.get?_push_of_some _ e) (Nat.le_refl _) ?_, rfl, q _ hf⟩
  exact ⟨z, us, r, ⟨_, Heap.get?_push_size _ rfl, rfl, _, rfl⟩⟩
theorem zhi (h : PA X es t) : PE X (.List es pos) (zqd t) := by
  intro pins s σ H Q I hq
  refine wpAny_List_spliced (thn (h pos pins s σ H _ I hq) fun us s1 ⟨xs, H1, I1, r, z, q⟩ => ⟨by rw [← r.length]; exact z, ?_⟩)
  have hf : H1 s1.heap.objs.size = none := I1.hok.fresh (Nat.le_refl _)
  refine ⟨.ref s1.heap.objs.size, upd H1 s1.heap.objs.size (.lst xs), I1.laid (t' := s1.toks) (fun b u e => Heap.get?_push_of_some _ e) (Nat.le_refl _) ?_, rfl, q _ hf⟩
  exact ⟨z, us, 0, r, Heap.get?_push_size _ rfl⟩
end
noncomputable abbrev Sp := List V → Hp → VK → XK → Prop
noncomputable abbrev CXT := List Env → Hp → Shared → XK → Value → Shared → Prop
structure Env0 (P : Program) (w : World) (K : PySem.W.Frag) (mg : Str → Option Value) (base : Heap) (A : Around) (outer : List Env) (s : Shared) (H : Hp) : Prop where
  frames : A.frames = some outer
  mod : Mod K mg base
  bs : ∀ b o, base.get? b = some o → s.heap.get? b = some o ∧ H b = none
  bsz : base.objs.size ≤ s.heap.objs.size
  funs : s.heap.FunFrames base outer
  frf : ∀ b ∈ frs outer, H b = none
  hok : HOk P w H s.heap
  bare : AllBare s.gens
noncomputable def CE (outer : List Env) (P : Program) (w : World) (H : Hp) (s : Shared) (Q : VK) (u : Value) (s' : Shared) : Prop :=
  ∃ v H', s'.os = s.os ∧ AllBare s'.gens ∧ Un (frs outer) [] H H' s.heap s'.heap ∧ HOk P w H' s'.heap ∧ RelV v u ∧ Q v H'
noncomputable def CR (CX : CXT) (outer : List Env) (P : Program) (w : World) (H : Hp) (s : Shared) (Q : VK) (E : XK) (r : Result) (s' : Shared) : Prop :=
  match r with
  | .ok (.ret u) => CE outer P w H s Q u s'
  | .ok _ => False
  | .error e => CX outer H s E e s'
structure FnOk (P : Program) (w : World) (K : PySem.W.Frag) (mg : Str → Option Value) (base : Heap) (CX : CXT) (k : Nat) (f : Addr) (fd : FuncData) (ps : List Str) (sp : Sp) : Prop where
  len : ∀ vs H Q E, sp vs H Q E → vs.length = ps.length
  run : ∀ (A : Around) (outer : List Env) (s : Shared) (H : Hp) (args : Args) (us : List Value) (vs : List V) (Q : VK) (E : XK), Room k A → Env0 P w K mg base A outer s H → BindsTo s fd args (ps.zip us) → Vals vs us → sp vs H Q E →
    codeAny (model P w) A (.call (.ref f) args) (CR CX outer P w H s Q E) s
theorem FnOk.imp {P : Program} {w : World} {K : PySem.W.Frag} {mg : Str → Option Value} {base : Heap} {CX : CXT} {k : Nat} {f : Addr} {fd : FuncData} {ps : List Str} {sp sp' : Sp} (F : FnOk P w K mg base CX k f fd ps sp)
    (h : ∀ vs H Q E, sp' vs H Q E → sp vs H Q E) : FnOk P w K mg base CX k f fd ps sp' :=
  ⟨fun vs H Q E q => F.len vs H Q E (h _ _ _ _ q), fun A outer s H args us vs Q E hr he hb hv hs => F.run A outer s H args us vs Q E hr he hb hv (h _ _ _ _ hs)⟩
theorem Env0.in1 {P : Program} {w : World} {K : PySem.W.Frag} {mg : Str → Option Value} {base : Heap} {A : Around} {outer : List Env} {s : Shared} {H : Hp} (e : Env0 P w K mg base A outer s H) :
    Env0 P w K mg base A.in1 outer s H := ⟨e.frames, e.mod, e.bs, e.bsz, e.funs, e.frf, e.hok, e.bare⟩
section
variable {X : Cx} {pins : List (Addr × Obj)} {σ : St} {H : Hp} {s s' : Shared}
theorem Inv.env0 (I : Inv X pins σ H s) : Env0 X.prog X.w X.K X.mg X.base X.A X.stack s H :=
  ⟨I.ok.frames, I.ok.mod, I.bs, Nat.le_trans I.ok.bsz I.sz, I.stack, I.stkFree, I.hok, I.bare⟩
theorem Inv.after {Q : VK} {u : Value} (I : Inv X pins σ H s) (h : CE X.stack X.prog X.w H s Q u s') : EP X pins σ Q u s' := by
  obtain ⟨v, H', os, bare, un, hok, r, q⟩ := h
  obtain ⟨hh, g, d, t, os'⟩ := s'
  obtain rfl : os' = s.os := os
  exact ⟨v, H', I.call (h' := hh) (g' := g) (d' := d) (t' := t) (ch := []) un hok bare (fun b z => absurd z (by simp)), r, q⟩
end
noncomputable def zqe (sp : Sp) (dvs : List V) (E : XK) (t : TA) : TE := fun σ H Q => t σ H fun vs H1 => sp (vs ++ dvs) H1 Q E
noncomputable def Binds (K : PySem.W.Frag) (fd : FuncData) (ps : List Str) (ds : List Value) : Prop :=
  ∀ (s : Shared) (us : List Value), K.In s.heap → (us ++ ds).length = ps.length → BindsTo s fd ⟨us, []⟩ (ps.zip (us ++ ds))
theorem Binds.all {K : PySem.W.Frag} {fd : FuncData} {ps : List Str} (h : ∀ us : List Value, us.length = ps.length → bindArgs fd ⟨us, []⟩ = pure (ps.zip us)) : Binds K fd ps [] := fun s us _ hl => by
  rw [List.append_nil] at hl ⊢
  exact .of_eq (h us hl)
noncomputable def zcR (CX : CXT) (X : Cx) (E : XK) : Prop := ∀ (pins : List (Addr × Obj)) (σ : St) (H : Hp) (s : Shared) (e : Value) (s' : Shared), Inv X pins σ H s → CX X.stack H s E e s' → X.xe e s'
section
variable {X : Cx} {CX : CXT} {k : Nat} {f C : Addr} {fd : FuncData} {ps : List Str} {sp : Sp} {dvs : List V} {ds : List Value} {E : XK} {x m : Str} {p pos apos : Pos} {e o : Expr} {es : List Expr} {ta : TE} {t : TA}
theorem zmi {pins : List (Addr × Obj)} {σ : St} {H : Hp} {s : Shared} {Q : VK} {us : List Value} {vs : List V} (F : FnOk X.prog X.w X.K X.mg X.base CX k f fd ps sp) (hr : Room k X.A) (hb : Binds X.K fd ps ds) (hd : Vals dvs ds) (hx : zcR CX X E)
    (I : Inv X pins σ H s) (r : Vals vs us) (h : sp (vs ++ dvs) H Q E) : wpAny (model X.prog X.w) X.A (call (.ref f) us) (EP X pins σ Q) X.xe s := by
  have r2 : Vals (vs ++ dvs) (us ++ ds) := r.append hd
  have hl : (us ++ ds).length = ps.length := by rw [← r2.length]; exact F.len _ _ _ _ h
  refine wpAny_call (codeAny_mono (F.run X.A X.stack s H ⟨us, []⟩ (us ++ ds) (vs ++ dvs) Q E hr I.env0 (hb s us I.kIn hl) r2 h) fun r s' hq => ?_)
  cases r with
  | error e => exact hx pins σ H s e s' I hq
  | ok fl =>
    cases fl with
    | ret u => exact I.after hq
    | next => exact False.elim hq
    | brk => exact False.elim hq
    | cont => exact False.elim hq
theorem zhj (F : FnOk X.prog X.w X.K X.mg X.base CX k f fd ps sp) (hr : Room k X.A) (hg : Gl X x) (hm : X.mg x = some (.ref f)) (hk : PySem.W.keepIn X.K (.ref f) = true) (hb : Binds X.K fd ps ds) (hd : Vals dvs ds) (hx : zcR CX X E)
    (ha : PA X (e :: es) t) (hdb : (x == ("__debug__" : Str)) = false := by decide) (he : starEach (e :: es) X.env = (false, eval e X.env) :: starEach es X.env := by rfl) (hpl : (backTo pos (starEach es X.env)).any (·.1) = false := by rfl) :
    PE X (.Call (.Name x p) (e :: es) [] pos) (zqe sp dvs E t) := by
  intro pins s σ H Q I h
  refine wpAny_Call_Name_kw (zcQ I hg hm ?_ hdb)
  refine PySem.W.callWith_K (h₀ := X.base) I.ok.mod.kin hk (thn (ha pos pins s σ H _ I h) fun us s1 ⟨vs, H1, I1, r, q⟩ => ⟨I1.kIn, ?_⟩) he hpl
  exact zmi F hr hb hd hx I1 r q
end
structure FnScope (N P : List Str) (sc : Scope) : Prop where
  kind : sc.kind = .function
  co : sc.isCoroutine = false
  gen : sc.isGenerator = false
  nd : N.Nodup
  pre : N.take P.length = P
  par : ∀ x ∈ P, sc.names.lookup x = some .local ∨ sc.names.lookup x = some .cell
  nofree : ∀ y ∈ sc.names, y.2 ≠ .free
theorem zex {kindOf : Str → Option NameKind} {x : Str} : ∀ {binds : List (Str × Value)} {m : Str → Option Value}, (∀ v, (x, v) ∉ binds) → bindL kindOf binds m x = m x
  | [], _, _ => rfl
  | (n, v) :: r, m, h => by
    unfold bindL
    rw [zex fun w hw => h w (List.mem_cons_of_mem _ hw)]
    split
    · have : x ≠ n := by rintro rfl; exact h v List.mem_cons_self
      simp [this]
    · rfl
theorem zey {kindOf : Str → Option NameKind} {x : Str} : ∀ {binds : List (Str × Value)} {m : Str → Option Value}, (∀ v, (x, v) ∉ binds) → bindC kindOf binds m x = m x
  | [], _, _ => rfl
  | (n, v) :: r, m, h => by
    unfold bindC
    rw [zey fun w hw => h w (List.mem_cons_of_mem _ hw)]
    split
    · rfl
    · have : x ≠ n := by rintro rfl; exact h v List.mem_cons_self
      simp [this]
theorem zez {kindOf : Str → Option NameKind} {x : Str} {v : Value} : ∀ {P : List Str} {vs : List Value} {i : Nat} {m : Str → Option Value}, P.Nodup → P[i]? = some x → vs[i]? = some v → kindOf x = some .local →
    bindL kindOf (P.zip vs) m x = some v
  | [], _, _, _, _, h, _, _ => by simp at h
  | _ :: _, [], _, _, _, _, h, _ => by simp at h
  | p :: P, w :: vs, 0, m, nd, h1, h2, hk => by
    simp at h1 h2; subst h1; subst h2
    show bindL kindOf ((p, w) :: P.zip vs) m p = _
    unfold bindL
    rw [zex fun v hv => (List.nodup_cons.mp nd).1 (List.of_mem_zip hv).1, if_pos hk]
    simp
  | p :: P, w :: vs, i + 1, m, nd, h1, h2, hk => by
    show bindL kindOf ((p, w) :: P.zip vs) m x = _
    unfold bindL
    exact zez (i := i) (List.nodup_cons.mp nd).2 (by simpa using h1) (by simpa using h2) hk
theorem zeA {kindOf : Str → Option NameKind} {x : Str} {v : Value} : ∀ {P : List Str} {vs : List Value} {i : Nat} {m : Str → Option Value}, P.Nodup → P[i]? = some x → vs[i]? = some v → kindOf x ≠ some .local →
    bindC kindOf (P.zip vs) m x = some v
  | [], _, _, _, _, h, _, _ => by simp at h
  | _ :: _, [], _, _, _, _, h, _ => by simp at h
  | p :: P, w :: vs, 0, m, nd, h1, h2, hk => by
    simp at h1 h2; subst h1; subst h2
    show bindC kindOf ((p, w) :: P.zip vs) m p = _
    unfold bindC
    rw [zey fun v hv => (List.nodup_cons.mp nd).1 (List.of_mem_zip hv).1, if_neg hk]
    simp
  | p :: P, w :: vs, i + 1, m, nd, h1, h2, hk => by
    show bindC kindOf ((p, w) :: P.zip vs) m x = _
    unfold bindC
    exact zeA (i := i) (List.nodup_cons.mp nd).2 (by simpa using h1) (by simpa using h2) hk
noncomputable def zbq (N : List Str) (vs : List V) : St := vs.map some ++ List.replicate (N.length - vs.length) none
noncomputable def zbo (CX : CXT) (P : Program) (w : World) (K : PySem.W.Frag) (mg : Str → Option Value) (base : Heap) (N : List Str) (qual : Str) (scope : Scope) (f : Addr) (cd : Value) (A : Around) (outer : List Env) (s : Shared) (H : Hp) (E : XK) : Cx where
  prog := P
  w := w
  K := K
  mg := mg
  base := base
  A := A.deeper (envOfC qual scope s.heap.objs.size f cd)
  N := N
  s₀ := s
  H₀ := H
  env := envOfC qual scope s.heap.objs.size f cd
  outer := outer
  stack := envOfC qual scope s.heap.objs.size f cd :: outer
  ex := []
  calm := true
  fn := fun _ => true
  pn := []
  xe := fun e s' => wpAny (model P w) (A.deeper (envOfC qual scope s.heap.objs.size f cd)) (leaving (envOfC qual scope s.heap.objs.size f cd) e) (fun _ s'' => CX outer H s E e s'') (fun e' s'' => CX outer H s E e' s'') s'
theorem zf3 {sc : Scope} {n : Nat} {x : Str} (h : sc.names.lookup x = some .cell) : ∃ c, (cellsFrom n sc.names []).lookup x = some c := by
  have q := PySem.W.cellsFrom_some sc.names n [] (.inl h)
  exact Option.isSome_iff_exists.mp q
theorem zhk {CX : CXT} {P : Program} {w : World} {K : PySem.W.Frag} {mg : Str → Option Value} {base : Heap} {N ps : List Str} {qual : Str} {scope : Scope} {f : Addr} {cd : Value} {A : Around} {outer : List Env} {s s1 : Shared} {H : Hp} {E : XK} {us : List Value} {vs : List V}
    (S : FnScope N ps scope) (hd : A.handled = none) (e0 : Env0 P w K mg base A outer s H) (hl : vs.length = ps.length) (r : Vals vs us)
    (x : InCallC s s.heap.objs.size (bindL (envOfC qual scope s.heap.objs.size f cd).kindOf (ps.zip us) fun _ => none) (cellsFrom (s.heap.objs.size + 1) scope.names []) (bindC (envOfC qual scope s.heap.objs.size f cd).kindOf (ps.zip us) fun _ => none) s1) :
    Inv (zbo CX P w K mg base N qual scope f cd A outer s H E) [] (zbq N vs) H s1 := by
  have hpl : ps.length ≤ N.length := by have := congrArg List.length S.pre; rw [List.length_take] at this; omega
  obtain ⟨h1, tk, rfl, hk⟩ := x.done
  have noA : ∀ b : Addr, b ∉ (zbo CX P w K mg base N qual scope f cd A outer s H E).ex := fun b z => absurd (show b ∈ ([] : List Addr) from z) (by simp)
  refine ⟨⟨e0.mod, S.kind, rfl, rfl, Nat.le_refl _, fun y z c h1 h2 => ?_, fun y hy => ?_, fun y c _ h => ?_, fun _ => hd, Around.frames_deeper e0.frames, .inr ⟨rfl, rfl⟩, fun b z => absurd z (noA b), e0.bs, e0.bsz, fun b _ _ => noA b, fun b z => absurd z (noA b), e0.funs, e0.frf⟩,
    rfl, e0.bare, Un.kept hk, ⟨_, x.toInCall.ns, fun i y v h1 h2 h3 => ?_⟩, fun y c h => ⟨_, x.cell y c h⟩, e0.hok.fresh (Nat.le_refl _), fun y c h => ?_, fun p hp => absurd (show p ∈ ([] : List (Addr × Obj)) from hp) (by simp), e0.hok.kept hk, ?_⟩
  · exact name_of_addr x.apart (PySem.mem_of_lookup h1) (PySem.mem_of_lookup h2)
  · have hy : scope.names.lookup y = some .cell ∨ scope.names.lookup y = some .free := hy
    rcases hy with hy | hy
    · exact zf3 hy
    · exact absurd rfl (S.nofree _ (PySem.mem_of_lookup hy))
  · exact Nat.le_of_lt (x.above y c (PySem.mem_of_lookup h))
  · have hi : i < vs.length := by
      unfold zbq at h2
      by_cases hi : i < vs.length
      · exact hi
      · rw [List.getElem?_append_right (by simpa using hi)] at h2
        rw [List.getElem?_replicate] at h2
        split at h2 <;> cases h2
    have ha : vs[i]? = some v := by
      unfold zbq at h2
      rw [List.getElem?_append_left (by simpa using hi), List.getElem?_map] at h2
      cases e : vs[i]? with
      | none => rw [e] at h2; cases h2
      | some a => rw [e] at h2; cases h2; rfl
    obtain ⟨u, hu, rv⟩ := r.get ha
    have hp : ps[i]? = some y := by
      rw [← S.pre, List.getElem?_take_of_lt (by omega)]; exact h1
    have ndP : ps.Nodup := by rw [← S.pre]; exact S.nd.sublist (List.take_sublist _ _)
    refine ⟨u, rv, ?_⟩
    rcases S.par y (List.mem_of_getElem? hp) with k | k
    · exact .inl ⟨k, zez ndP hp hu k⟩
    · obtain ⟨c, e⟩ := zf3 (n := s.heap.objs.size + 1) k
      refine .inr ⟨.inl k, c, e, ?_⟩
      have q := x.cell y c e
      rw [zeA ndP hp hu (by show scope.names.lookup y ≠ _; rw [k]; decide)] at q
      exact q
  · exact e0.hok.fresh (Nat.le_of_lt (x.above y c (PySem.mem_of_lookup h)))
  · unfold zbq
    show _ = N.length
    rw [List.length_append, List.length_map, List.length_replicate]
    omega
theorem zmj {CX : CXT} {P : Program} {w : World} {K : PySem.W.Frag} {mg : Str → Option Value} {base : Heap} {k : Nat} {f : Addr} {name qual : Str} {params : Arguments} {body : List Stmt} {scope : Scope} {dV kV doc pm cdv ct oc : Value} {an od : Option Addr}
    {osl : Array (Option Value)} {N ps : List Str} {sp : Sp} (lk : K.lookup f = some ⟨oc, od, .func (PySem.W.fnOf name qual params body scope dV kV doc pm an cdv ct), osl⟩) (hcd : PySem.W.codeIn K cdv qual = true) (S : FnScope N ps scope)
    (len : ∀ vs H Q E, sp vs H Q E → vs.length = ps.length)
    (hbody : ∀ (A : Around) (outer : List Env) (s : Shared) (H : Hp) (vs : List V) (Q : VK) (E : XK), Room k (A.deeper (envOfC qual scope s.heap.objs.size f cdv)) → sp vs H Q E →
      ∃ t, PSs (zbo CX P w K mg base N qual scope f cdv A outer s H E) body t ∧ t { nx := fun _ H' => Q .non H', rt := Q } (zbq N vs) H) :
    FnOk P w K mg base CX (k + 1) f (PySem.W.fnOf name qual params body scope dV kV doc pm an cdv ct) ps sp := by
  refine ⟨len, fun A outer s H args us vs Q E hr e0 hb r hsp => ?_⟩
  have hl := len _ _ _ _ hsp
  have KX : K.In s.heap := e0.mod.kin.keeps fun b o e => (e0.bs b o e).1
  have lim : s.heap.NoLimit := e0.mod.nolimit.keeps fun b o e => (e0.bs b o e).1
  have hkind : ∀ y ∈ ps.zip us, scope.names.lookup y.1 = some .local ∨ (scope.names.lookup y.1 = some .cell ∧ ((cellsFrom (s.heap.objs.size + 1) scope.names []).lookup y.1).isSome = true) := fun ⟨n, v⟩ hy => by
    rcases S.par n (List.of_mem_zip hy).1 with q | q
    · exact .inl q
    · exact .inr ⟨q, PySem.W.cellsFrom_some _ _ _ (.inl q)⟩
  refine codeAny_call_function hr.depth (KX _ _ lk) rfl S.co S.gen rfl (PySem.W.codeRec_of KX hcd) (hb _ _ _ _ ?_)
  refine wpAny_newFunctionEnv_cells S.kind hkind fun env he s1 x => ?_
  subst he
  refine ⟨lim.keeps x.toInCall.keep, codeAny_func ?_⟩
  obtain ⟨t, ht, hq⟩ := hbody A outer s H vs Q E (hr.deeper _) hsp
  have I : Inv (zbo CX P w K mg base N qual scope f cdv A outer s H E) [] (zbq N vs) H s1 := zhk S hr.hd e0 hl r x
  refine wpAny_mono (ht [] s1 (zbq N vs) H _ I hq) (fun fl s' hs => ?_) fun e s' hs => hs
  have fin : ∀ {σ' : St} {H' : Hp} {v : V} {u : Value}, Inv (zbo CX P w K mg base N qual scope f cdv A outer s H E) [] σ' H' s' → RelV v u → Q v H' → CE outer P w H s Q u s' :=
    fun {σ' H' v u} J rv q => ⟨v, H', J.os, J.bare, J.base, J.hok, rv, q⟩
  cases fl with
  | ret u =>
    obtain ⟨v, σ', H', J, rv, q⟩ := hs
    exact fin J rv q
  | next =>
    obtain ⟨σ', H', J, q⟩ := hs
    exact fin (v := V.non) (u := Value.none) J rfl q
  | brk =>
    obtain ⟨_, _, _, q⟩ := hs
    exact False.elim q
  | cont =>
    obtain ⟨_, _, _, q⟩ := hs
    exact False.elim q
end L2
namespace L2
open PySem PySem.Spec PyProof.Rows
section
variable {X : Cx} {x : Str} {p pos : Pos} {e : Expr} {es : List Expr} {t : TA} {id T : String} {r : List V → Hp → VK → Prop}
noncomputable def tCB (r : List V → Hp → VK → Prop) (t : TA) : TE := fun σ H Q => t σ H fun vs H1 => r vs H1 Q
theorem zcK (hc : CallR X (.builtin id) r) (hg : Gl X x) (hm : X.mg x = none) (hv : bootBuiltins x = some (.builtin id)) (ha : PA X (e :: es) t) (hn : x ≠ "__name__" := by decide) (hdb : (x == ("__debug__" : Str)) = false := by decide)
    (he : starEach (e :: es) X.env = (false, eval e X.env) :: starEach es X.env := by rfl) (hpl : (backTo pos (starEach es X.env)).any (·.1) = false := by rfl) : PE X (.Call (.Name x p) (e :: es) [] pos) (tCB r t) := by
  intro pins s σ H Q I h
  refine wpAny_Call_Name_kw (zdz I hg hm hv ?_ hn hdb)
  exact PyProof.Rows.callWith_builtin1 (thn (ha pos pins s σ H _ I h) fun us s1 ⟨vs, H1, I1, r1, q1⟩ => hc pins s1 σ H1 vs us Q I1 r1 q1) he hpl
theorem zhl (hc : CallR X (.type T) r) (hg : Gl X x) (hm : X.mg x = none) (hv : bootBuiltins x = some (.type T)) (ha : PA X (e :: es) t) (hn : x ≠ "__name__" := by decide) (hdb : (x == ("__debug__" : Str)) = false := by decide)
    (he : starEach (e :: es) X.env = (false, eval e X.env) :: starEach es X.env := by rfl) (hpl : (backTo pos (starEach es X.env)).any (·.1) = false := by rfl) : PE X (.Call (.Name x p) (e :: es) [] pos) (tCB r t) := by
  intro pins s σ H Q I h
  refine wpAny_Call_Name_kw (zdz I hg hm hv ?_ hn hdb)
  exact PyProof.Rows.callWith_type1 (thn (ha pos pins s σ H _ I h) fun us s1 ⟨vs, H1, I1, r1, q1⟩ => hc pins s1 σ H1 vs us Q I1 r1 q1) he hpl
end
end L2
namespace HT
open PySem PyProof.Rows
noncomputable def lexLt : List Int → List Int → Bool
  | [], [] => false
  | [], _ :: _ => true
  | _ :: _, [] => false
  | x :: xs, y :: ys => if x = y then lexLt xs ys else decide (x < y)
theorem lexLt_cons (x y : Int) (xs ys : List Int) : lexLt (x :: xs) (y :: ys) = if x = y then lexLt xs ys else decide (x < y) := rfl
theorem zdU : lexLt [] [] = false := rfl
theorem zdo (y : Int) (ys : List Int) : lexLt [] (y :: ys) = true := rfl
theorem zdp (x : Int) (xs : List Int) : lexLt (x :: xs) [] = false := rfl
theorem ziI (A : Around) (s : Shared) (a : Int) (t : Tok) (c : Int) (u : Tok) : ∃ e, SeqAt.EqAt A s (.int a t) (.int c u) e ∧ (e = true ↔ a = c) :=
  ⟨(a == c), SeqAt.EqAt.int_int a t c u, by simp⟩
theorem ziJ (A : Around) (s : Shared) (a : Int) (t : Tok) (c : Int) (u : Tok) (prog : Program) (w : World) (E : Value → Shared → Prop) (Q : Value → Shared → Prop) (h : Q (.bool (decide (a < c))) s) :
    wpAny (model prog w) A (richCompare .Lt (.int a t) (.int c u)) Q E s :=
  (PyProof.Rows.lt_int h : wpAny (model prog w) A (compareOp .Lt (.int a t) (.int c u)) Q E s)
section
open PySem.SeqAt
open PySem.AutoSeq1 (wpAny_loadPart')
open PySem.MeetsSeq PySem.MeetsSeq2 PySem.MeetsSeq3
theorem zdV (l b : Addr) (items items2 : Array Value) (n n2 : Nat) (dd dd2 : Option Addr) (sl sl2 : Array (Option Value)) (ns ms : List Int) (hi : IntsAre items.toList ns) (hj : IntsAre items2.toList ms) :
    Meets (Builtin.«tuple.__lt__» ⟨[.ref l, .ref b], []⟩)
      (fun _ R s => s.heap.get? l = some { cls := .type "tuple", dict := dd, data := .seq items n, slots := sl } ∧ s.heap.get? b = some { cls := .type "tuple", dict := dd2, data := .seq items2 n2, slots := sl2 } ∧
        R (.ok (.ret (.bool (lexLt ns ms)))) s) :=
  .of_wp fun prog w A R s h => by
    obtain ⟨hp, g, d, tk, os⟩ := s; obtain ⟨hl, hb, h⟩ := h
    have f2 := AutoSeq1.sub_tuple_tuple
    have z1 : items.size = ns.length := by rw [← hi.length]; simp
    have z2 : items2.size = ms.length := by rw [← hj.length]; simp
    wp_walk using wpAny_loadPart' hl, wpAny_loadPart' hb, wpAny_forIn_list _ (fun zbX b s' => b.1 = none ∧ s' = ⟨hp, g, d, tk, os⟩ ∧ ∃ (vs ws : List Value) (ns' ms' : List Int), zbX = vs.zip ws ∧
      IntsAre vs ns' ∧ IntsAre ws ms' ∧ ns'.length + items2.size = ms'.length + items.size ∧ R (.ok (.ret (.bool (lexLt ns' ms')))) ⟨hp, g, d, tk, os⟩) _
    case turn =>
      rintro ⟨y, x⟩ zbX b s' ⟨hb', rfl, vs, ws, ns', ms', hz, hvi, hwi, hlen, hR⟩
      cases hvi with
      | nil => rw [List.zip_nil_left] at hz; cases hz
      | cons a t hvi' =>
        cases hwi with
        | nil => rw [List.zip_nil_right] at hz; cases hz
        | cons c u hwi' =>
          rw [List.zip_cons_cons] at hz
          injection hz with hyx hrest
          injection hyx with hy hx
          subst hy hx
          rw [lexLt_cons] at hR
          simp only [List.length_cons] at hlen
          obtain ⟨e, he, hiff⟩ := ziI A.in1 ⟨hp, g, d, tk, os⟩ a t c u
          refine wpAny_bind (he prog w _ _ ?_)
          cases e with
          | true =>
            rw [if_pos (hiff.mp rfl)] at hR
            wp_walk
            exact ⟨rfl, rfl, _, _, _, _, hrest, hvi', hwi', by omega, hR⟩
          | false =>
            rw [if_neg (fun q => absurd (hiff.mpr q) Bool.false_ne_true)] at hR
            have hri := ziJ A.in1 ⟨hp, g, d, tk, os⟩ a t c u prog w
            wp_walk using hri
            exact ⟨_, rfl, by simpa using hR⟩
    case fin =>
      rintro ⟨b1, b2⟩ s' ⟨hb', rfl, vs, ws, ns', ms', hz, hvi, hwi, hlen, hR⟩
      simp only at hb'
      subst hb'
      have hv : lexLt ns' ms' = decide (items.size < items2.size) := by
        cases hvi with
        | nil =>
          cases hwi with
          | nil =>
            simp only [List.length_nil] at hlen
            rw [zdU]
            exact (decide_eq_false (by omega)).symm
          | cons c u hw =>
            simp only [List.length_nil, List.length_cons] at hlen
            rw [zdo]
            exact (decide_eq_true (by omega)).symm
        | cons a t hv =>
          cases hwi with
          | nil =>
            simp only [List.length_nil, List.length_cons] at hlen
            rw [zdp]
            exact (decide_eq_false (by omega)).symm
          | cons c u hw =>
            rw [List.zip_cons_cons] at hz
            cases hz
      rw [hv] at hR
      wp_walk
      exact ⟨_, rfl, by simpa [Builtin.Tuple.tupleCompareSizes] using hR⟩
    case h =>
      exact ⟨rfl, rfl, items.toList, items2.toList, ns, ms, rfl, hi, hj, by omega, h⟩
end
section
variable {prog : Program} {w : World} {A : Around} {E : Value → Shared → Prop} {s : Shared}
theorem lt_tupInts {l b : Addr} {items items2 : Array Value} {ns ms : List Int} {Q : Value → Shared → Prop} (hl : IsTup s.heap l items) (hb : IsTup s.heap b items2) (hi : IntsAre items.toList ns) (hj : IntsAre items2.toList ms)
    (hu : A.units < cLine) (h : Q (.bool (lexLt ns ms)) s) : wpAny (model prog w) A (compareOp .Lt (.ref l) (.ref b)) Q E s := by
  obtain ⟨⟨cls, dd, data, sl⟩, ho, hc, n, hd⟩ := id hl
  obtain ⟨⟨cls2, dd2, data2, sl2⟩, ho2, hc2, n2, hd2⟩ := id hb
  simp only at hc hd hc2 hd2
  subst hc hd hc2 hd2
  exact richCompare_meets_room (op := .Lt) ⟨_, ho, rfl⟩ ⟨_, ho2, rfl⟩ PySem.F.slot_tuple_lt PySem.F.entry_tuple_lt (PySem.F.args_tuple_lt_2 _ _) (zdV l b items items2 n n2 dd dd2 sl sl2 ns ms hi hj)
    ⟨ho, ho2, show Value.bool (lexLt ns ms) ≠ Value.notImplemented ∧ Q (.bool (lexLt ns ms)) s from ⟨(fun x => nomatch x), h⟩⟩ hu
end
end HT
namespace L2
open PySem PySem.Spec PyProof.Rows
noncomputable abbrev TO := St → Hp → (Option Int → Hp → Prop) → Prop
theorem zcd {ns : List Int} : ∀ {us : List Value}, Vals (ns.map V.int) us → IntsAre us ns := by
  induction ns with
  | nil => intro us r; rw [List.map_nil] at r; cases r; exact .nil
  | cons n ns ih =>
    intro us r
    rw [List.map_cons] at r
    cases r with
    | cons r1 r2 =>
      obtain ⟨t, e⟩ := r1
      subst e
      exact .cons n t (ih r2)
section
variable {X : Cx} {e : Expr} {te : TE} {lo hi : Option Expr} {tl th : TO} {pos p2 : Pos}
noncomputable def SlR (X : Cx) (r : V → Option Int → Option Int → Hp → VK → Prop) : Prop :=
  ∀ (pins : List (Addr × Obj)) (s : Shared) (σ : St) (H : Hp) (x : V) (v vl vu : Value) (lo hi : Option Int) (sl : Addr) (Q : VK), Inv X pins σ H s → RelV x v → s.heap.IsSliceOf sl vl vu .none → IsPart vl lo → IsPart vu hi → r x lo hi H Q →
    ∃ T id, typeLookup (.type T) "__getitem__" = pure (some (.builtin id)) ∧ s.TypeIs v T ∧ wpAny (model X.prog X.w) X.A (getItem v (.ref sl)) (EP X pins σ Q) X.xe s
theorem SlR.or {r r' : V → Option Int → Option Int → Hp → VK → Prop} (h : SlR X r) (h' : SlR X r') : SlR X (fun x lo hi H Q => r x lo hi H Q ∨ r' x lo hi H Q) := by
  intro pins s σ H x v vl vu lo hi sl Q I rx hs pl pu q
  rcases q with q | q
  · exact h pins s σ H x v vl vu lo hi sl Q I rx hs pl pu q
  · exact h' pins s σ H x v vl vu lo hi sl Q I rx hs pl pu q
noncomputable def zsJ (K : PySem.W.Frag) : R2 := fun x y H Q => ∃ a b ns ms, x = .ref a ∧ y = .ref b ∧ SqT K H a (ns.map V.int) ∧ SqT K H b (ms.map V.int) ∧ Q (.bl (HT.lexLt ns ms)) H
theorem zmk (hu : X.A.units < cLine) : OpR X (compareOp .Lt) (zsJ X.K) := by
  intro pins s σ H x y v u Q I rx ry h
  obtain ⟨a, b, ns, ms, rfl, rfl, ha, hb, q⟩ := h
  cases rx
  cases ry
  obtain ⟨its, r1, p1, _⟩ := I.tuple ha
  obtain ⟨its2, r2, p2, _⟩ := I.tuple hb
  have i1 : IntsAre its.toArray.toList ns := zcd r1
  have i2 : IntsAre its2.toArray.toList ms := zcd r2
  exact HT.lt_tupInts p1 p2 i1 i2 hu ⟨.bl (HT.lexLt ns ms), H, I, rfl, q⟩
end
end L2
namespace L2
open PySem PySem.Spec PyProof.Rows
noncomputable def ixN (n : Nat) (i : Int) : Option Nat := if 0 ≤ i then (if i < n then some i.toNat else none) else if -(n : Int) ≤ i then some (i + n).toNat else none
noncomputable def atI {α : Type} (xs : List α) (i : Int) : Option α := (ixN xs.length i).bind fun j => xs[j]?
theorem zkq {n : Nat} {i : Int} {j : Nat} (h : ixN n i = some j) : seqIndex? i n = some j ∧ j < n ∧ -(n : Int) ≤ i ∧ i < n := by
  unfold ixN at h
  by_cases h0 : 0 ≤ i
  · rw [if_pos h0] at h
    by_cases h1 : i < n
    · rw [if_pos h1] at h
      have e : i.toNat = j := Option.some.inj h
      exact ⟨by rw [seqIndex_of h0 h1, e], by omega, by omega, h1⟩
    · rw [if_neg h1] at h; cases h
  · rw [if_neg h0] at h
    by_cases h1 : -(n : Int) ≤ i
    · rw [if_pos h1] at h
      have e : (i + n).toNat = j := Option.some.inj h
      exact ⟨by rw [seqIndex_neg (by omega) h1, e], by omega, h1, by omega⟩
    · rw [if_neg h1] at h; cases h
theorem zhm {α : Type} {xs : List α} {i : Int} {v : α} (h : atI xs i = some v) : ∃ j, seqIndex? i xs.length = some j ∧ xs[j]? = some v ∧ j < xs.length ∧ -(xs.length : Int) ≤ i ∧ i < xs.length := by
  unfold atI at h
  cases e : ixN xs.length i with
  | none => rw [e] at h; cases h
  | some j =>
    rw [e] at h
    obtain ⟨h1, h2, h3, h4⟩ := zkq e
    exact ⟨j, h1, h, h2, h3, h4⟩
theorem atI_nat {α : Type} {xs : List α} {j : Nat} {v : α} (h : xs[j]? = some v) : atI xs (j : Int) = some v := by
  have hj : j < xs.length := (List.getElem?_eq_some_iff.mp h).1
  have e : ixN xs.length (j : Int) = some j := by
    unfold ixN
    rw [if_pos (by omega), if_pos (by omega)]; simp
  unfold atI; rw [e]; exact h
noncomputable def zhn (b : Expr) : Prop := ∀ o i, subscripted b false o i = operate [o, i] (getItem o i)
noncomputable def IxR (X : Cx) (r : R2) : Prop :=
  ∀ (value slice : Expr) (pins : List (Addr × Obj)) (s : Shared) (σ : St) (H : Hp) (x y : V) (v u : Value) (Q : VK), Inv X pins σ H s → RelV x v → RelV y u → r x y H Q →
    subscripted slice false v u = operate [v, u] (getItem v u) → wpAny (model X.prog X.w) X.A (subscriptTail value slice v u) (EP X pins σ Q) X.xe s
noncomputable def MtR (X : Cx) (id : String) (r : V → List V → Hp → VK → Prop) : Prop :=
  ∀ (pins : List (Addr × Obj)) (s : Shared) (σ : St) (H : Hp) (x : V) (xs : List V) (v : Value) (us : List Value) (Q : VK), Inv X pins σ H s → RelV x v → Vals xs us → r x xs H Q →
    wpAny (model X.prog X.w) X.A (call (.builtin id) (v :: us)) (EP X pins σ Q) X.xe s
section
variable {X : Cx} {a b : Expr} {ta tb : TE} {pos : Pos}
theorem IxR.or {r r' : R2} (h : IxR X r) (h' : IxR X r') : IxR X (fun x y H Q => r x y H Q ∨ r' x y H Q) := by
  intro value slice pins s σ H x y v u Q I rx ry q hs
  rcases q with q | q
  · exact h value slice pins s σ H x y v u Q I rx ry q hs
  · exact h' value slice pins s σ H x y v u Q I rx ry q hs
theorem MtR.or {id : String} {r r' : V → List V → Hp → VK → Prop} (h : MtR X id r) (h' : MtR X id r') : MtR X id (fun x xs H Q => r x xs H Q ∨ r' x xs H Q) := by
  intro pins s σ H x xs v us Q I rx rs q
  rcases q with q | q
  · exact h pins s σ H x xs v us Q I rx rs q
  · exact h' pins s σ H x xs v us Q I rx rs q
theorem zqf {r : R2} (hr : IxR X r) (ha : PE X a ta) (hb : PE X b tb) (hs : zhn b) : PE X (.Subscript a b pos) (tOp r ta tb) := by
  intro pins s σ H Q I h
  exact Subscript_ (zp2 ha hb I h fun v u s2 x y H2 I2 rx ry q => hr a b pins s2 σ H2 x y v u Q I2 rx ry q (hs _ _))
noncomputable def zsK (K : PySem.W.Frag) : R2 := fun x y H Q => ∃ p xs i v, x = .ref p ∧ y = .int i ∧ SqL K H p xs ∧ atI xs i = some v ∧ Q v H
noncomputable def zsL (K : PySem.W.Frag) : R2 := fun x y H Q => ∃ p xs i v, x = .ref p ∧ y = .int i ∧ SqT K H p xs ∧ atI xs i = some v ∧ Q v H
theorem zkr : IxR X (zsK X.K) := by
  intro value slice pins s σ H x y v u Q I rx ry h hs
  obtain ⟨p, xs, i, z, rfl, rfl, hq, he, q⟩ := h
  cases rx
  obtain ⟨t, rfl⟩ := ry
  obtain ⟨its, r, pl, hz⟩ := I.list hq
  obtain ⟨j, h1, h2, h3, h4, h5⟩ := zhm he
  obtain ⟨w, ew, rw'⟩ := r.get h2
  have hl := r.length
  have hn := zf2
  have fin : EP X pins σ Q w s := ⟨z, H, I, rw', q⟩
  by_cases h0 : 0 ≤ i
  · have hj : i.toNat = j := by
      rw [seqIndex_of h0 h5] at h1
      exact Option.some.inj h1
    exact item_listR pl.isList h0 (by omega) (by rw [hj]; simpa using ew) fin hs
  · have hj : (i + (its.toArray.size : Int)).toNat = j := by
      rw [seqIndex_neg (by omega) h4] at h1
      rw [List.size_toArray, ← hl]
      exact Option.some.inj h1
    exact subscriptTail_builtinR (x := w) pl.isList.typeIs slot_list_getitem.lookup
      (wpAny_getItem_list_neg (Q := fun r s' => r = w ∧ EP X pins σ Q r s') pl.isList (by omega) (by rw [List.size_toArray] <;> omega) (by omega) (by rw [hj]; simpa using ew) ⟨rfl, fin⟩) hs
theorem zml : IxR X (zsL X.K) := by
  intro value slice pins s σ H x y v u Q I rx ry h hs
  obtain ⟨p, xs, i, z, rfl, rfl, hq, he, q⟩ := h
  cases rx
  obtain ⟨t, rfl⟩ := ry
  obtain ⟨its, r, pl, hz⟩ := I.tuple hq
  obtain ⟨j, h1, h2, h3, h4, h5⟩ := zhm he
  obtain ⟨w, ew, rw'⟩ := r.get h2
  have hl := r.length
  have hn := zf2
  have fin : EP X pins σ Q w s := ⟨z, H, I, rw', q⟩
  exact subscriptTail_builtinR (x := w) pl.typeIs slot_tuple_getitem.lookup
    (getItem_tuple (j := j) (Q := fun r s' => r = w ∧ EP X pins σ Q r s') pl (by omega) (by omega) (by rw [List.size_toArray, ← hl]; exact h1) (by simpa using ew) ⟨rfl, fin⟩) hs
theorem Inv.lst {pins : List (Addr × Obj)} {σ : St} {H : Hp} {s : Shared} {p : Addr} {xs : List V} (I : Inv X pins σ H s) (h : H p = some (.lst xs)) :
    ∃ (its : List Value) (n : Nat), Vals xs its ∧ s.heap.get? p = some { cls := .type "list", data := .seq its.toArray n } ∧ xs.length ≤ sizeLine := by
  obtain ⟨z, its, n, r, e⟩ := I.hok p _ h
  exact ⟨its, n, r, e, z⟩
theorem zcp : CallR X (.builtin "len") (fun xs H Q => ∃ p ys, xs = [.ref p] ∧ (SqL X.K H p ys ∨ SqT X.K H p ys) ∧ Q (.int ys.length) H) := by
  intro pins s σ H xs us Q I r h
  obtain ⟨p, ys, rfl, hq, q⟩ := h
  obtain ⟨u, rfl, rx⟩ := zfA r
  cases rx
  have hn := zf2
  rcases hq with hq | hq
  · obtain ⟨its, r', pl, hz⟩ := I.list hq
    have hlen := r'.length
    exact Calls.call_len_list pl.isList (by simp only [List.size_toArray] <;> omega) ⟨.int ys.length, H, I.tok _, ⟨s.toks + 1, by rw [List.size_toArray, hlen]⟩, q⟩
  · obtain ⟨its, r', pl, hz⟩ := I.tuple hq
    have hlen := r'.length
    exact len_tuple pl (by simp only [List.size_toArray] <;> omega) ⟨.int ys.length, H, I.tok _, ⟨s.toks + 1, by rw [List.size_toArray, hlen]⟩, q⟩
theorem CallR.or {f : Value} {r r' : List V → Hp → VK → Prop} (h : CallR X f r) (h' : CallR X f r') : CallR X f (fun xs H Q => r xs H Q ∨ r' xs H Q) := by
  intro pins s σ H xs us Q I rs q
  rcases q with q | q
  · exact h pins s σ H xs us Q I rs q
  · exact h' pins s σ H xs us Q I rs q
theorem zbZ : CallR X (.type "tuple") (fun xs H Q => ∃ p ys, xs = [.ref p] ∧ ((SqL X.K H p ys ∧ ∀ l, H l = none → Q (.ref l) (upd H l (.tup ys))) ∨ (SqT X.K H p ys ∧ Q (.ref p) H))) := by
  intro pins s σ H xs us Q I r h
  obtain ⟨p, ys, rfl, h⟩ := h
  obtain ⟨u, rfl, rx⟩ := zfA r
  cases rx
  rcases h with ⟨hq, q⟩ | ⟨hq, q⟩
  · obtain ⟨its, r', pl, hz⟩ := I.list hq
    have hlen := r'.length
    refine call_tuple_list pl.isList (fun h' kp => ?_) (by simp only [List.size_toArray] <;> omega)
    have I1 : Inv X pins σ H { s with heap := h' } := I.kept (t' := s.toks) kp
    have I2 : Inv X pins σ (upd H h'.objs.size (.tup ys)) { s with heap := h'.push { cls := .type "tuple", data := .seq its.toArray } } :=
      I1.laid (t' := s.toks) (fun b o e => Heap.get?_push_of_some _ e) (Nat.le_refl _) (show ObjOk X.prog X.w _ _ _ (.tup ys) from ⟨hz, its, r', IsTup.new _ _⟩)
    exact ⟨.ref h'.objs.size, _, I2, rfl, q _ (I1.hok.fresh (Nat.le_refl _))⟩
  · obtain ⟨its, r', pl, hz⟩ := I.tuple hq
    exact call_tuple_same pl ⟨.ref p, H, I, rfl, q⟩
noncomputable def tyV (K : PySem.W.Frag) (T : String) (x : V) (H : Hp) : Prop := match x with
  | .str _ => T = "str"
  | .int _ => T = "int"
  | .ref p => (T = "list" ∧ ∃ xs, SqL K H p xs) ∨ (T = "tuple" ∧ ∃ o, K.lookup p = some o ∧ o.cls = .type "tuple" ∧ o.dict = none) ∨
      (T = "dict" ∧ ((∃ kvs, H p = some (.dK kvs)) ∨ ∃ kvs, H p = some (.dT kvs))) ∨ (T = "set" ∧ ∃ S n, H p = some (.set S n))
  | _ => False
theorem zmm {pins : List (Addr × Obj)} {σ : St} {H : Hp} {s : Shared} {T : String} {x : V} {v : Value} (I : Inv X pins σ H s) (r : RelV x v) (ty : tyV X.K T x H) :
    s.TypeIs v T ∧ ∀ a, v = .ref a → ∃ ob, s.heap.get? a = some ob ∧ ob.dict = none := by
  cases x with
  | str z =>
    obtain ⟨t, rfl⟩ := r
    cases (show T = "str" from ty)
    exact ⟨typeIs_str s z t, fun _ e => nomatch e⟩
  | int i =>
    obtain ⟨t, rfl⟩ := r
    cases (show T = "int" from ty)
    exact ⟨typeIs_int s i t, fun _ e => nomatch e⟩
  | ref p =>
    cases r
    rcases ty with ⟨rfl, xs, hq⟩ | ⟨rfl, o, hk, hc, hd⟩ | ⟨rfl, hk⟩ | ⟨rfl, S, n, hk⟩
    · obtain ⟨its, _, pl, _⟩ := I.list hq
      refine ⟨pl.isList.typeIs, fun a e => ?_⟩
      cases e
      obtain ⟨o, n, e, c, hd, _⟩ := pl
      exact ⟨o, e, hd⟩
    · refine ⟨⟨o, I.kIn p o hk, hc⟩, fun a e => ?_⟩
      cases e
      exact ⟨o, I.kIn _ o hk, hd⟩
    · have z : ∃ o, s.heap.get? p = some o ∧ o.ExactDict := by
        rcases hk with ⟨kvs, hk⟩ | ⟨kvs, hk⟩
        · obtain ⟨_, _, _, _, o, _, _, e, ex, _⟩ := I.hok p _ hk
          exact ⟨o, e, ex⟩
        · obtain ⟨_, _, _, _, o, _, _, e, ex, _⟩ := I.hok p _ hk
          exact ⟨o, e, ex⟩
      obtain ⟨o, e, ex⟩ := z
      refine ⟨⟨o, e, ex.1⟩, fun a e2 => ?_⟩
      cases e2
      exact ⟨o, e, ex.2.1⟩
    · obtain ⟨o, _, _, _, e, ex, _⟩ := I.hok p _ hk
      refine ⟨⟨o, e, ex.1⟩, fun a e2 => ?_⟩
      cases e2
      exact ⟨o, e, ex.2.1⟩
  | _ => exact False.elim ty
noncomputable def tBM (K : PySem.W.Frag) (T : String) (r : V → List V → Hp → VK → Prop) (to : TE) (t : TA) : TE := fun σ H Q => to σ H fun x H1 => tyV K T x H1 ∧ t σ H1 fun xs H2 => r x xs H2 Q
variable {o e : Expr} {es : List Expr} {to : TE} {t : TA} {name : Str} {apos cpos : Pos} {T id : String} {r : V → List V → Hp → VK → Prop}
theorem zks (pa : PlainAttrs T) (slot : Slot T name id) (hty : typeOf (.builtin id) = pure (.type "method_descriptor")) (hm : MtR X id r) (ho : PE X o to) (ha : PA X (e :: es) t)
    (hbase : attributeBase o name X.env (eval o X.env) = eval o X.env := by rfl)
    (hfew : ((backTo cpos (starEach (e :: es) X.env)).all (fun x => !x.1) && (backToKw cpos (keywordEach [] X.env)).all (fun x => x.1.isSome)
      && decide ((e :: es).length + ([] : List Keyword).length + (if ([] : List Keyword).isEmpty then 0 else 1) < 30)) = true := by rfl)
    (hline : (apos.endLine == cpos.line) = true := by rfl) (hs : starEach (e :: es) X.env = (false, eval e X.env) :: starEach es X.env := by rfl) (hplain : (backTo cpos (starEach es X.env)).any (·.1) = false := by rfl) :
    PE X (.Call (.Attribute o name apos) (e :: es) [] cpos) (tBM X.K T r to t) := by
  intro pins s σ H Q I h
  refine wpAny_Call_method_late hbase hfew hline rfl (thn (ho pins s σ H _ I h) fun v s1 ⟨x, H1, I1, r1, ty, q1⟩ => ?_)
  obtain ⟨h1, h2⟩ := zmm I1 r1 ty
  refine ⟨T, id, pa, slot, hty, h1, h2, ?_⟩
  have hA := ha cpos pins s1 σ H1 _ I1 q1
  rw [hs] at hA ⊢
  refine Calls.callWith_builtin (by show (false || (backTo cpos (starEach es X.env)).any (·.1)) = false; rw [hplain] <;> rfl) (Calls.evalArgs_plain ?_)
  exact thn hA fun us s2 ⟨vs, H2, I2, r2, q2⟩ => hm pins s2 σ H2 x vs v us Q I2 r1 r2 q2
end
end L2
namespace L2
open PySem PySem.Spec PyProof.Rows
noncomputable def MtM (X : Cx) (id : String) (r : V → List V → Hp → VK → Prop) : Prop :=
  ∀ (pins : List (Addr × Obj)) (s : Shared) (σ : St) (H : Hp) (x : V) (xs : List V) (v : Value) (us : List Value) (Q : VK), Inv X pins σ H s → RelV x v → Vals xs us → r x xs H Q →
    wpAny (model X.prog X.w) X.A (call (.builtin id) (v :: us)) (EP X pins σ Q) X.xe s
theorem Vals.one : ∀ {x : V} {us : List Value}, Vals [x] us → ∃ u, us = [u] ∧ RelV x u
  | _, _, .cons r .nil => ⟨_, rfl, r⟩
theorem Vals.two : ∀ {x y : V} {us : List Value}, Vals [x, y] us → ∃ u v, us = [u, v] ∧ RelV x u ∧ RelV y v
  | _, _, _, .cons r (.cons q .nil) => ⟨_, _, rfl, r, q⟩
theorem Vals.zero : ∀ {us : List Value}, Vals [] us → us = []
  | _, .nil => rfl
theorem Vals.rep {xs : List V} {us : List Value} (h : Vals xs us) : ∀ k : Nat, Vals (List.replicate k xs).flatten (List.replicate k us).flatten
  | 0 => .nil
  | k + 1 => by
    rw [List.replicate_succ, List.replicate_succ, List.flatten_cons, List.flatten_cons]
    exact Vals.append h (Vals.rep h k)
section
variable {X : Cx} {pins : List (Addr × Obj)} {σ : St} {H : Hp} {s : Shared} {l b : Addr} {xs ys zs : List V}
theorem Inv.lset {its its' : List Value} {n : Nat} {f : Array Value → Array Value} {t' : Nat} (I : Inv X pins σ H s) (hH : H l = some (.lst xs))
    (e : s.heap.get? l = some { cls := .type "list", data := .seq its.toArray n }) (hf : f its.toArray = its'.toArray) (hv : Vals ys its') (hz : ys.length ≤ sizeLine) :
    Inv X pins σ (upd H l (.lst ys)) { s with heap := s.heap.update l (Obj.mapSeq f), toks := t' } := by
  have q := PySem.IsL.update e f
  rw [hf] at q
  refine I.write (x := l) (e := l) (by rw [hH]; exact trivial) (.inl rfl) (fun b' u hb hu => (Heap.get?_update_other s.heap (Obj.mapSeq f) (Ne.symm hb)).trans hu) ⟨_, q⟩ ?_
  exact ⟨hz, its', _, hv, q⟩
theorem Inv.lnew {its : List Value} {t' : Nat} (I : Inv X pins σ H s) (hv : Vals ys its) (hz : ys.length ≤ sizeLine) :
    Inv X pins σ (upd H s.heap.objs.size (.lst ys)) { s with heap := s.heap.push { cls := .type "list", data := .seq its.toArray }, toks := t' } :=
  I.laid (fun _ _ q => Heap.get?_push_of_some _ q) (Nat.le_refl _) ⟨hz, its, 0, hv, Heap.get?_push_size _ rfl⟩
theorem Inv.fresh (I : Inv X pins σ H s) : H s.heap.objs.size = none := I.hok.fresh (Nat.le_refl _)
theorem Inv.lstM (I : Inv X pins σ H s) (hH : H l = some (.lst xs)) : xs.length ≤ sizeLine ∧ ∃ (its : List Value) (n : Nat), Vals xs its ∧ xs.length = its.length ∧ s.heap.get? l = some { cls := .type "list", data := .seq its.toArray n } := by
  obtain ⟨z, its, n, r, e⟩ := I.hok l _ hH
  exact ⟨z, its, n, r, r.length, e⟩
end
section
variable {X : Cx}
noncomputable def zkt : V → List V → Hp → VK → Prop := fun x vs H Q => ∃ l xs y, x = .ref l ∧ vs = [y] ∧ H l = some (.lst xs) ∧ xs.length < sizeLine ∧ Q .non (upd H l (.lst (xs ++ [y])))
theorem zeB : MtM X "list.append" zkt := by
  intro pins s σ H x vs v us Q I rx rv h
  obtain ⟨l, xs, y, rfl, rfl, hH, hz, q⟩ := h
  cases rx
  obtain ⟨u, rfl, ru⟩ := rv.one
  obtain ⟨z, its, n, r, hl, e⟩ := I.lstM hH
  refine call_meets F.slot_list_append ⟨_, e, rfl⟩ F.entry_list_append (F.args_list_append_2 _ _) (PySem.list_append l its.toArray n u (by rw [List.size_toArray]; omega)) ⟨e, ?_⟩
  refine ⟨.non, _, I.lset (its' := its ++ [u]) hH e (by simp) (r.append (.cons ru .nil)) ?_, rfl, q⟩
  rw [List.length_append, List.length_singleton]
  omega
noncomputable def zrW : R2 := fun x y H Q => ∃ l b xs zs, x = .ref l ∧ y = .ref b ∧ H l = some (.lst xs) ∧ H b = some (.lst zs) ∧ xs.length + zs.length ≤ sizeLine ∧ ∀ p, H p = none → Q (.ref p) (upd H p (.lst (xs ++ zs)))
theorem zmn : OpR X (binaryOp .Add) zrW := by
  intro pins s σ H x y v u Q I rx ry h
  obtain ⟨l, b, xs, zs, rfl, rfl, hH, hB, hz, q⟩ := h
  cases rx
  cases ry
  obtain ⟨z, its, n, r, hl, e⟩ := I.lstM hH
  obtain ⟨z2, its2, n2, r2, hl2, e2⟩ := I.lstM hB
  refine PySem.P.add_list e e2 ?_ (by rw [List.size_toArray, List.size_toArray]; omega)
  have ea : its.toArray ++ its2.toArray = (its ++ its2).toArray := by simp
  rw [ea]
  exact ⟨.ref _, _, I.lnew (t' := s.toks) (r.append r2) (by rw [List.length_append]; omega), rfl, q _ I.fresh⟩
end
end L2
namespace L2
open PySem PySem.Spec PyProof.Rows
section
variable {κ : Type} [DecidableEq κ]
noncomputable def zdB (kvs : List (κ × V)) (k : κ) : Option V := (kvs.find? fun kv => decide (kv.1 = k)).map (·.2)
noncomputable def zj0 (kvs : List (κ × V)) (k : κ) (v : V) : List (κ × V) :=
  if (kvs.any fun kv => decide (kv.1 = k)) = true then kvs.map (fun kv => if kv.1 = k then (kv.1, v) else kv) else kvs ++ [(k, v)]
noncomputable def zmo (kvs : List (κ × V)) (k : κ) : List (κ × V) := kvs.filter fun kv => decide (kv.1 ≠ k)
theorem zb0 {p : κ × V} {r : List (κ × V)} {k : κ} (e : p.1 = k) : zdB (p :: r) k = some p.2 := by simp [zdB, List.find?_cons, e]
theorem zb1 {p : κ × V} {r : List (κ × V)} {k : κ} (e : ¬ p.1 = k) : zdB (p :: r) k = zdB r k := by simp [zdB, List.find?_cons, e]
theorem zf4 (k : κ) : ∀ kvs : List (κ × V), (kvs.any fun kv => decide (kv.1 = k)) = (zdB kvs k).isSome
  | [] => rfl
  | p :: r => by
    rw [List.any_cons]
    by_cases e : p.1 = k
    · simp only [zb0 e, decide_eq_true e, Bool.true_or, Option.isSome_some]
    · rw [zb1 e, decide_eq_false e, Bool.false_or]; exact zf4 k r
theorem RelO.isSome_eq {o : Option V} {u : Option Value} (r : RelO o u) : o.isSome = u.isSome := by
  cases o with
  | none => cases u with
    | none => rfl
    | some _ => exact (show False from r).elim
  | some _ => cases u with
    | none => exact (show False from r).elim
    | some _ => rfl
theorem RelO.getD {o : Option V} {u : Option Value} {d : V} {d' : Value} (r : RelO o u) (rd : RelV d d') : RelV (o.getD d) (u.getD d') := by
  cases o with
  | none => cases u with
    | none => exact rd
    | some _ => exact (show False from r).elim
  | some _ => cases u with
    | none => exact (show False from r).elim
    | some _ => exact r
theorem KV.val {kvs : List (κ × V)} {vs : List (κ × Value)} (r : KV kvs vs) (k : κ) : RelO (zdB kvs k) (valueAt vs k) := by
  unfold KV at r
  induction r with
  | nil => exact True.intro
  | @cons p q ps qs h t ih =>
    obtain ⟨h1, h2⟩ := h
    by_cases e : p.1 = k
    · have e' : q.1 = k := h1.symm.trans e
      have b : valueAt (q :: qs) k = some q.2 := by simp [valueAt, List.find?_cons, e']
      rw [zb0 e, b]; exact h2
    · have e' : ¬ q.1 = k := fun z => e (h1.trans z)
      have b : valueAt (q :: qs) k = valueAt qs k := by simp [valueAt, List.find?_cons, e']
      rw [zb1 e, b]; exact ih
theorem KV.any {kvs : List (κ × V)} {vs : List (κ × Value)} (r : KV kvs vs) (k : κ) : (kvs.any fun kv => decide (kv.1 = k)) = vs.any fun kv => decide (kv.1 = k) := by
  unfold KV at r
  induction r with
  | nil => rfl
  | cons h t ih => rw [List.any_cons, List.any_cons, ih, h.1]
theorem KV.repl {kvs : List (κ × V)} {vs : List (κ × Value)} (r : KV kvs vs) (k : κ) {y : V} {u : Value} (ry : RelV y u) :
    KV (kvs.map fun kv => if kv.1 = k then (kv.1, y) else kv) (vs.map fun kv => if kv.1 = k then (kv.1, u) else kv) := by
  unfold KV at r ⊢
  induction r with
  | nil => exact .nil
  | @cons p q ps qs h t ih =>
    rw [List.map_cons, List.map_cons]
    refine .cons ?_ ih
    obtain ⟨h1, h2⟩ := h
    by_cases e : p.1 = k
    · rw [if_pos e, if_pos (h1.symm.trans e)]; exact ⟨h1, ry⟩
    · rw [if_neg e, if_neg (fun z => e (h1.trans z))]; exact ⟨h1, h2⟩
theorem KV.put {kvs : List (κ × V)} {vs : List (κ × Value)} (r : KV kvs vs) (k : κ) {y : V} {u : Value} (ry : RelV y u) : KV (zj0 kvs k y) (stored vs k u) := by
  unfold zj0 stored
  rw [r.any k]
  by_cases e : (vs.any fun kv => decide (kv.1 = k)) = true
  · rw [if_pos e, if_pos e]; exact r.repl k ry
  · rw [if_neg e, if_neg e]; exact Paired.snoc r ⟨rfl, ry⟩
theorem KV.drop {kvs : List (κ × V)} {vs : List (κ × Value)} (r : KV kvs vs) (k : κ) : KV (zmo kvs k) (without vs k) := by
  unfold KV at r ⊢
  unfold zmo without
  induction r with
  | nil => exact .nil
  | @cons p q ps qs h t ih =>
    obtain ⟨h1, h2⟩ := h
    rw [List.filter_cons, List.filter_cons]
    by_cases e : p.1 = k
    · have a : ¬ decide (p.1 ≠ k) = true := by simp [e]
      have b : ¬ decide (q.1 ≠ k) = true := by simp [h1.symm.trans e]
      rw [if_neg a, if_neg b]; exact ih
    · have e' : ¬ q.1 = k := fun z => e (h1.trans z)
      have a : decide (p.1 ≠ k) = true := by simp [e]
      have b : decide (q.1 ≠ k) = true := by simp [e']
      rw [if_pos a, if_pos b]; exact .cons ⟨h1, h2⟩ ih
theorem KV.keys {kvs : List (κ × V)} {vs : List (κ × Value)} (r : KV kvs vs) : kvs.map (·.1) = vs.map (·.1) := by
  unfold KV at r
  induction r with
  | nil => rfl
  | cons h t ih => rw [List.map_cons, List.map_cons, ih, h.1]
theorem KV.length {kvs : List (κ × V)} {vs : List (κ × Value)} (r : KV kvs vs) : kvs.length = vs.length := Paired.length r
end
theorem ziK {P : Program} {w : World} {k : Key} {u : Value} (r : RelV (kV k) u) : (za6 P w).is k u = true := by
  cases k with
  | inl i => obtain ⟨t, e⟩ := (show ∃ t, u = Value.int i t from r); subst e; exact zfu P w i t
  | inr x => obtain ⟨t, e⟩ := (show ∃ t, u = Value.str x t from r); subst e; exact zfv P w x t
theorem zeC {P : Program} {w : World} : ∀ {ks : List Key} {us : List Value}, Vals (ks.map kV) us → ItemsAre (za6 P w) ks us
  | [], _, r => by rw [List.map_nil] at r; cases r; exact .nil
  | k :: ks, _, r => by
    rw [List.map_cons] at r
    cases r with
    | cons h t => exact .cons (ziK h) (zeC t)
noncomputable abbrev KT (H : Hp) : List (List Key × V) → List (List Key × Addr × Value) → Prop := Paired fun p q => p.1 = q.1 ∧ H q.2.1 = some (.tup (p.1.map kV)) ∧ RelV p.2 q.2.2
theorem KT.val {H : Hp} {kvs : List (List Key × V)} {xs : List (List Key × Addr × Value)} (r : KT H kvs xs) (k : List Key) : RelO (zdB kvs k) ((atKey xs k).map (·.2)) := by
  induction r with
  | nil => exact True.intro
  | @cons p q ps qs h t ih =>
    obtain ⟨h1, _, h2⟩ := h
    by_cases e : p.1 = k
    · have e' : q.1 = k := h1.symm.trans e
      have b : atKey (q :: qs) k = some q.2 := by simp [atKey, List.find?_cons, e']
      rw [zb0 e, b]; exact h2
    · have e' : ¬ q.1 = k := fun z => e (h1.trans z)
      have b : atKey (q :: qs) k = atKey qs k := by simp [atKey, List.find?_cons, e']
      rw [zb1 e, b]; exact ih
theorem KT.repl {H : Hp} {kvs : List (List Key × V)} {xs : List (List Key × Addr × Value)} (r : KT H kvs xs) (k : List Key) {y : V} {u : Value} (ry : RelV y u) :
    KT H (kvs.map fun kv => if kv.1 = k then (kv.1, y) else kv) (xs.map (putAt k u)) := by
  induction r with
  | nil => exact .nil
  | @cons p q ps qs h t ih =>
    rw [List.map_cons, List.map_cons]
    refine .cons ?_ ih
    obtain ⟨h1, h2, h3⟩ := h
    unfold putAt
    by_cases e : p.1 = k
    · rw [if_pos e, if_pos (h1.symm.trans e)]; exact ⟨h1, h2, ry⟩
    · rw [if_neg e, if_neg (fun z => e (h1.trans z))]; exact ⟨h1, h2, h3⟩
theorem KT.put {H : Hp} {kvs : List (List Key × V)} {xs : List (List Key × Addr × Value)} (r : KT H kvs xs) (k : List Key) {b : Addr} {y : V} {u : Value} (hb : H b = some (.tup (k.map kV))) (ry : RelV y u) :
    KT H (zj0 kvs k y) (storedH xs k b u) := by
  have e : (kvs.any fun kv => decide (kv.1 = k)) = (atKey xs k).isSome := by
    rw [zf4, (r.val k).isSome_eq, Option.isSome_map]
  unfold zj0 storedH
  rw [e]
  by_cases q : (atKey xs k).isSome = true
  · rw [if_pos q, if_pos q]; exact r.repl k ry
  · rw [if_neg q, if_neg q]; exact Paired.snoc r ⟨rfl, hb, ry⟩
theorem KT.keeps {H H' : Hp} {kvs : List (List Key × V)} {xs : List (List Key × Addr × Value)} (r : KT H kvs xs) (ht : ∀ b ys, H b = some (.tup ys) → H' b = some (.tup ys)) : KT H' kvs xs :=
  Paired.mapP r fun _ _ z => ⟨z.1, ht _ _ z.2.1, z.2.2⟩
section
variable {P : Program} {w : World} {H : Hp} {h : Heap} {a : Addr}
theorem zmp {u : HO} (ok : HOk P w H h) (e : Rd H a u) : ObjOk P w H h a u := e.ok ok
theorem zho {kvs : List (Key × V)} (ok : HOk P w H h) (e : Rd H a (.dK kvs)) : kvs.length ≤ sizeLine ∧ (a == sysModules) = false ∧ ∃ vs, KV kvs vs ∧ h.DictOf (za6 P w) a vs :=
  show ObjOk P w H h a (.dK kvs) from zmp ok e
theorem zf5 {ks : List Key} (ok : HOk P w H h) (e : H a = some (.tup (ks.map kV))) : (tupleKind (za6 P w)).is h ks a := by
  obtain ⟨_, its, r, o, h1, h2, n, h3⟩ := (show ObjOk P w H h a (.tup (ks.map kV)) from ok a _ e)
  exact ⟨o, its.toArray, n, h1, h2, h3, by simpa using zeC r⟩
theorem zhp {kvs : List (List Key × V)} (ok : HOk P w H h) (e : Rd H a (.dT kvs)) : kvs.length ≤ sizeLine ∧ (a == sysModules) = false ∧
    ∃ xs, KT H kvs xs ∧ h.DictOfH (tupleKind (za6 P w)) a xs := by
  obtain ⟨z, y, xs, r, o, es, ep, h1, h2, h3, h4, h5⟩ := (show ObjOk P w H h a (.dT kvs) from zmp ok e)
  refine ⟨z, y, xs, r, o, es, ep, h1, h2, h3, h4, fun x hx => ?_, h5⟩
  have all : ∀ {l : List (List Key × V)} {m : List (List Key × Addr × Value)}, KT H l m → ∀ x ∈ m, (tupleKind (za6 P w)).is h x.1 x.2.1 := by
    intro l m q
    induction q with
    | nil => intro x hx; exact nomatch hx
    | @cons p q ps qs hq t ih =>
      intro x hx
      rcases List.mem_cons.mp hx with e | hx
      · subst e
        exact zf5 ok (by rw [← hq.1]; exact hq.2.1)
      · exact ih x hx
  exact all r x hx
end
noncomputable def DGet (H : Hp) (a : Addr) (y : V) (r : Option V) : Prop :=
  (∃ kvs k, Rd H a (.dK kvs) ∧ y = kV k ∧ r = zdB kvs k) ∨ ∃ kvs k b, Rd H a (.dT kvs) ∧ y = .ref b ∧ H b = some (.tup (k.map kV)) ∧ r = zdB kvs k
noncomputable def DPut (H : Hp) (a : Addr) (y v : V) (H' : Hp) : Prop :=
  (∃ kvs k, H a = some (.dK kvs) ∧ y = kV k ∧ kvs.length < sizeLine ∧ H' = upd H a (.dK (zj0 kvs k v))) ∨
  ∃ kvs k b, H a = some (.dT kvs) ∧ y = .ref b ∧ H b = some (.tup (k.map kV)) ∧ kvs.length < sizeLine ∧ H' = upd H a (.dT (zj0 kvs k v))
theorem DGet.k {H : Hp} {a : Addr} {kvs : List (Key × V)} {k : Key} (e : H a = some (.dK kvs)) : DGet H a (kV k) (zdB kvs k) := .inl ⟨kvs, k, .inl e, rfl, rfl⟩
theorem DGet.t {H : Hp} {a b : Addr} {kvs : List (List Key × V)} {k : List Key} (e : H a = some (.dT kvs)) (eb : H b = some (.tup (k.map kV))) : DGet H a (.ref b) (zdB kvs k) := .inr ⟨kvs, k, b, .inl e, rfl, eb, rfl⟩
theorem DPut.k {H : Hp} {a : Addr} {kvs : List (Key × V)} {k : Key} {v : V} (e : H a = some (.dK kvs)) (hl : kvs.length < sizeLine) : DPut H a (kV k) v (upd H a (.dK (zj0 kvs k v))) := .inl ⟨kvs, k, e, rfl, hl, rfl⟩
theorem DPut.t {H : Hp} {a b : Addr} {kvs : List (List Key × V)} {k : List Key} {v : V} (e : H a = some (.dT kvs)) (eb : H b = some (.tup (k.map kV))) (hl : kvs.length < sizeLine) :
    DPut H a (.ref b) v (upd H a (.dT (zj0 kvs k v))) := .inr ⟨kvs, k, b, e, rfl, eb, hl, rfl⟩
section
variable {X : Cx} {pins : List (Addr × Obj)} {σ : St} {H : Hp} {s : Shared} {a : Addr} {y v : V} {u r : Value} {o : Option V} {A : Around} {E : Value → Shared → Prop}
theorem zhq {Q : Value → Shared → Prop} (hu : A.units + 1 < cLine) (I : Inv X pins σ H s) (g : DGet H a y (some v)) (ry : RelV y u) (h : ∀ w' s', Inv X pins σ H s' → RelV v w' → Q w' s') :
    wpAny (model X.prog X.w) A (getItem (.ref a) u) Q E s := by
  rcases g with ⟨kvs, k, e, ey, l⟩ | ⟨kvs, k, b, e, ey, eb, l⟩
  · subst ey
    obtain ⟨z, hd, vs, rel, dd⟩ := zho I.hok e
    obtain ⟨w', hw, rw'⟩ := RelO.some_of (v := v) (o := valueAt vs k) (by rw [l]; exact rel.val k)
    exact wpAny_getItem_of (ziK ry) dd.mapOf hw (h w' _ (I.tok _) rw')
  · subst ey
    cases (show u = Value.ref b from ry)
    obtain ⟨z, hd, xs, rel, dd⟩ := zhp I.hok e
    obtain ⟨w', hw, rw'⟩ := RelO.some_of (v := v) (o := (atKey xs k).map (·.2)) (by rw [l]; exact rel.val k)
    obtain ⟨p, hp, hp2⟩ := jo2.mp hw
    refine wpAny_getItem_heap (tupleKind_room_in1 hu) (zf5 I.hok eb) dd hp ?_
    rw [hp2]
    exact h w' _ (I.tok _) rw'
theorem zrX {Q : Value → Shared → Prop} (hu : A.units + 1 < cLine) (I : Inv X pins σ H s) (g : DGet H a y o) (ry : RelV y u) (h : ∀ s', Inv X pins σ H s' → Q (.bool o.isSome) s') :
    wpAny (model X.prog X.w) A (compareOp .In u (.ref a)) Q E s := by
  rcases g with ⟨kvs, k, e, ey, l⟩ | ⟨kvs, k, b, e, ey, eb, l⟩
  · subst ey
    obtain ⟨z, hd, vs, rel, dd⟩ := zho I.hok e
    refine wpAny_in_of (ziK ry) hd dd.mapOf ?_
    rw [← (rel.val k).isSome_eq, ← l]
    exact h _ (I.tok _)
  · subst ey
    cases (show u = Value.ref b from ry)
    obtain ⟨z, hd, xs, rel, dd⟩ := zhp I.hok e
    refine wpAny_in_heap (tupleKind_room_in1 hu) (zf5 I.hok eb) hd dd ?_
    have q := (rel.val k).isSome_eq
    rw [Option.isSome_map] at q
    rw [← q, ← l]
    exact h _ (I.tok _)
theorem zhr {Q : Value → Shared → Prop} (hu : A.units + 1 < cLine) (I : Inv X pins σ H s) (g : DGet H a y o) (ry : RelV y u) (h : ∀ s', Inv X pins σ H s' → Q (.bool (!o.isSome)) s') :
    wpAny (model X.prog X.w) A (compareOp .NotIn u (.ref a)) Q E s := by
  rcases g with ⟨kvs, k, e, ey, l⟩ | ⟨kvs, k, b, e, ey, eb, l⟩
  · subst ey
    obtain ⟨z, hd, vs, rel, dd⟩ := zho I.hok e
    refine wpAny_notIn_of (ziK ry) hd dd.mapOf ?_
    rw [← (rel.val k).isSome_eq, ← l]
    exact h _ (I.tok _)
  · subst ey
    cases (show u = Value.ref b from ry)
    obtain ⟨z, hd, xs, rel, dd⟩ := zhp I.hok e
    refine wpAny_notIn_heap (tupleKind_room_in1 hu) (zf5 I.hok eb) hd dd ?_
    have q := (rel.val k).isSome_eq
    rw [Option.isSome_map] at q
    rw [← q, ← l]
    exact h _ (I.tok _)
end
theorem zfB {X : Cx} {pins : List (Addr × Obj)} {σ : St} {H : Hp} {s : Shared} {a : Addr} {y : V} {o : Option V} (I : Inv X pins σ H s) (g : DGet H a y o) : s.TypeIs (.ref a) "dict" := by
  rcases g with ⟨kvs, k, e, _, _⟩ | ⟨kvs, k, b, e, _, _, _⟩
  · obtain ⟨_, _, vs, _, dd⟩ := zho I.hok e
    exact dd.typeIs
  · obtain ⟨_, _, xs, _, dd⟩ := zhp I.hok e
    exact dd.typeIs
end L2
namespace Att
open PySem PySem.W PySem.Calls PyProof.Rows
theorem zcS {P : Params} {h : Heap} : ∀ (ns : List Int) (vs : List Value), WellAll P h vs (ns.map WData.int) → IntsAre vs ns := by
  intro ns
  induction ns with
  | nil =>
    intro vs w
    rw [List.map_nil] at w
    cases w
    exact .nil
  | cons n ns ih =>
    intro vs w
    rw [List.map_cons] at w
    cases w with
    | cons a b =>
      cases a
      exact .cons _ _ (ih _ b)
theorem zhs {l : OpenLaw} {n : Nat} (hn : l.most = some n) {P : Params} {h : Heap} {args : List WData} {vals : List Value}
    (hpre : l.row.toRowW.claim.pre args = true) (hwl : WellAll P h vals args) :
    ∃ a vs ns, vals = [Value.ref a] ∧ args = [WData.list (ns.map WData.int)] ∧ h.get? a = some { cls := .type "list", data := .seq vs.toArray } ∧ IntsAre vs ns ∧ ns.length ≤ n := by
  have hsh : WShape.hasAll [] args [.list .int] = true := (pre_splitW hpre).1
  have hc : l.pre.holds [] { args := args } = true := (pre_splitW hpre).2
  obtain ⟨d, r, rfl, h1, h2⟩ := hasAllW_cons hsh
  obtain rfl := hasAllW_nil h2
  obtain ⟨xs, rfl, h3⟩ := hasW_list h1
  obtain ⟨ns, rfl⟩ := items_int h3
  have hlen : ns.length ≤ n := by
    unfold OpenLaw.pre at hc
    have h4 : (WTm.not (.lt (.lit (.int (n : Int))) (.len (.arg 0)))).holds [] { args := [.list (ns.map .int)] } = true := by
      have h4 := (holds_andW hc).1
      rw [hn] at h4
      exact h4
    have h5 := condW_of h4 (w_not (w_lt w_lit (w_len_list (w_arg rfl))))
    rw [List.length_map] at h5
    refine Nat.le_of_not_lt fun q => ?_
    have q' : (n : Int) < ((ns.length : Nat) : Int) := by omega
    first
      | (rw [decide_eq_true q'] at h5; exact absurd h5 (by decide))
      | (simp at h5; omega)
  cases hwl with
  | cons w1 w2 =>
    cases w2
    cases w1 with
    | list ho hall => exact ⟨_, _, ns, rfl, rfl, ho, zcS ns _ hall, hlen⟩
theorem zht (l : OpenLaw) (args : List WData) : l.row.toRowW.claim.post args (.bool true) args = true :=
  postW_of (r := l.row.toRowW) (X := (true == true))
    (show WShape.has [] (.bool true) .bool = true by first | rfl | decide | simp [WShape.has, WShape.arms, WShape.armsAll])
    (show (WTm.eq .res (.lit (.bool true))).value [] { args := args, res := some (.bool true), after := args } = some (.bool (true == true)) from w_eq_bool (w_res rfl) w_lit) rfl
theorem attach_call {l : OpenLaw} {n : Nat} {q : Program} {loose : List Str} {XP : (Str → Option Value) → Heap → Prop} {YP : World → Heap → Prop} {d : DefRec}
    (hn : l.most = some n) (hdf : d.params.defaults = [])
    (call : ∀ (w : World) (s₀ s₁ : Shared) (mg mb : Str → Option Value) (fa : Addr) (o : Obj) (pm cd doc : Value) (a : Addr) (vs : List Value) (ns : List Int),
      Ground q loose [] XP w s₀ mg mb s₁.heap → YP w s₁.heap →
      s₁.heap.get? fa = some o → o.data = .func (docDef d.name d.params d.body d.scope pm cd doc) → s₁.heap.CodeRec cd d.name → mg d.name = some (.ref fa) →
      s₁.heap.get? a = some { cls := .type "list", data := .seq vs.toArray } → IntsAre vs ns → ns.length ≤ n → s₁.gens = #[] →
      codeAny (model l.prog w) callerA (.call (.ref fa) ⟨[.ref a], []⟩) (fun r s' => r = .ok (.ret (.bool true)) ∧ OldK s₁.heap s'.heap ∧ s'.os = s₁.os ∧ AllBare s'.gens) s₁) :
    WalkO q loose XP YP l.row.toRowW d [] (fun f vs => PySem.call f vs) := by
  intro w s₀ s₁ mg mb G Y fa o pm cd doc dV kV ho hd hcd hD hmg hg args vals as hpre hlay hrd hwl hlo
  obtain rfl : dV = .none := Dflts.none hD hdf
  obtain rfl : kV = .none := Dflts.noKw hD
  obtain ⟨a, vs, ns, rfl, rfl, hobj, hints, hlen⟩ := zhs hn hpre hwl
  refine enter_call (codeAny_mono (call w s₀ s₁ mg mb fa o pm cd doc a vs ns G Y ho (fd_plain hd) hcd hmg hobj hints hlen hg) fun r s' hq => ?_)
  obtain ⟨rfl, h2, h3, h4⟩ := hq
  exact ⟨.inl ⟨.bool true, .bool true, [], rfl, fun _ => rfl, .bool true, zht l _, fun _ => ⟨List.Pairwise.nil, fun _ hm => (nomatch hm)⟩⟩, h2, h3, h4⟩
section
variable {prog : Program} {w : World} {A : Around} {E : Value → Shared → Prop} {s : Shared} {K : Frag}
noncomputable def zrY (h : Heap) (L d : Addr) : List (Addr × Obj) := (List.range h.objs.size).filterMap fun a => if a = L ∨ a = d then none else (h.get? a).map fun o => (a, o)
end
end Att
namespace L2
open PySem PySem.Spec PyProof.Rows
theorem zeD : ∀ {vs : List Value} {ns : List Int}, IntsAre vs ns → Vals (ns.map V.int) vs
  | _, _, .nil => .nil
  | _, _, .cons n t h => .cons ⟨t, rfl⟩ (zeD h)
noncomputable def zor (H : Hp) : Prop := ∀ b, H b = none ∨ ∃ o xs, H b = some (.frz o (.lst xs))
theorem ziL {P : Program} {w : World} {K : PySem.W.Frag} {mg mb : Str → Option Value} {CX : CXT} {k : Nat} {fa a : Addr} {fd : FuncData} {x : Str} {sp : Sp} {s₁ : Shared} {vs : List Value} {ns : List Int}
    (KX : K.In s₁.heap) (hns : s₁.heap.Ns mainGlobals mg) (hb : s₁.heap.Ns builtinsNs mb) (hbb : ∀ x : Str, x ≠ "__name__" → mb x = bootBuiltins x) (hlim : s₁.heap.NoLimit) (hg : s₁.gens = #[])
    (ha : s₁.heap.get? a = some { cls := .type "list", data := .seq vs.toArray }) (hi : IntsAre vs ns) (hl : ns.length ≤ sizeLine) (hr : Room k callerA)
    (F : ∀ base : Heap, K.In base → base.Ns mainGlobals mg → FnOk P w K mg base CX k fa fd [x] sp) (hbind : ∀ (s : Shared) (u : Value), BindsTo s fd ⟨[u], []⟩ [(x, u)])
    (hsp : ∀ H : Hp, zor H → SqL K H a (ns.map V.int) → sp [.ref a] H (fun v _ => v = .bl true) fun _ _ _ => False)
    (hCX : ∀ H e s', CX [] H s₁ (fun _ _ _ => False) e s' → False) :
    codeAny (model P w) callerA (.call (.ref fa) ⟨[.ref a], []⟩) (fun r s' => r = .ok (.ret (.bool true)) ∧ OldK s₁.heap s'.heap ∧ s'.os = s₁.os ∧ AllBare s'.gens) s₁ := by
  have rv := zeD hi
  have lenV := hi.length
  have core : ∀ H : Hp, zor H → SqL K H a (ns.map V.int) → HOk P w H s₁.heap → (∀ b, H b ≠ none → b = a) → (H a ≠ none → K.lookup a = none) →
      codeAny (model P w) callerA (.call (.ref fa) ⟨[.ref a], []⟩) (fun r s' => r = .ok (.ret (.bool true)) ∧ OldK s₁.heap s'.heap ∧ s'.os = s₁.os ∧ AllBare s'.gens) s₁ := by
    intro H hO hS hok hA hK
    have base_of : ∀ {b : Addr} {o : Obj}, s₁.heap.get? b = some o → H b = none → (ziB s₁.heap H).get? b = some o := fun e n => ziC e n
    have noA : ∀ {b : Addr} {o : Obj} {es : Array DictEntry} {ep : Nat}, s₁.heap.get? b = some o → o.data = .dict es ep → H b = none := fun {b o es ep} e d => by
      cases q : H b with
      | none => rfl
      | some u =>
        have e' : b = a := hA b (by rw [q]; simp)
        subst e'
        rw [ha] at e; cases e
        have d' : Data.seq vs.toArray _ = Data.dict es ep := d
        cases d'
    have nsK : ∀ {b : Addr} {m : Str → Option Value}, s₁.heap.Ns b m → (ziB s₁.heap H).Ns b m := fun {b m} ⟨o, es, ep, e, d, r⟩ => ⟨o, es, ep, base_of e (noA e d), d, r⟩
    have hKb : K.In (ziB s₁.heap H) := fun b o e => base_of (KX b o e) (by
      cases q : H b with
      | none => rfl
      | some u =>
        have e' : b = a := hA b (by rw [q]; simp)
        subst e'
        rw [hK (by rw [q]; simp)] at e; cases e)
    have hM : Mod K mg (ziB s₁.heap H) := ⟨hKb, nsK hns, ⟨mb, nsK hb, hbb⟩, let ⟨mc, h1, h2⟩ := hlim; ⟨mc, nsK h1, h2⟩⟩
    have e0 : Env0 P w K mg (ziB s₁.heap H) callerA [] s₁ H := ⟨rfl, hM, fun b o e => zkh e, Nat.le_of_eq (zg5 _ _), trivial, fun b hb => absurd (show b ∈ ([] : List Addr) from hb) (by simp), hok, .of_eq hg⟩
    refine codeAny_mono ((F _ hKb (nsK hns)).run callerA [] s₁ H ⟨[.ref a], []⟩ [.ref a] [.ref a] _ _ hr e0 (hbind s₁ (.ref a)) (.cons rfl .nil) (hsp H hO hS)) fun r s' h => ?_
    cases r with
    | error e => exact (hCX H e s' h).elim
    | ok fl =>
      cases fl with
      | next => exact False.elim h
      | brk => exact False.elim h
      | cont => exact False.elim h
      | ret u =>
        obtain ⟨v, H', os, bare, un, hok', r', q⟩ := h
        have q' : v = .bl true := q
        subst q'
        obtain rfl : u = Value.bool true := r'
        refine ⟨rfl, OldK.of_keep fun b o e => ?_, os, bare⟩
        cases q : H b with
        | none => exact un.keep b o e q (by intro z; exact absurd (show b ∈ ([] : List Addr) from z) (by simp)) (by simp)
        | some u =>
          rcases hO b with z | ⟨ob, xs, z⟩
          · rw [q] at z; cases z
          · have z2 := un.frzs b ob _ z
            obtain ⟨e1, _⟩ := hok b _ z
            obtain ⟨e2, _⟩ := hok' b _ z2
            rw [e] at e1; cases e1
            exact e2
  cases hk : K.lookup a with
  | some o =>
    have e := KX a o hk
    rw [ha] at e
    cases e
    refine core (fun _ => none) (fun _ => .inl rfl) (.inr ⟨_, vs.toArray, _, hk, rfl, rfl, rfl, by rw [List.size_toArray, lenV]; exact hl, by simpa using rv⟩) (fun b u z => by have z' : (none : Option HO) = some u := z; cases z') (fun b z => absurd rfl z) fun z => absurd rfl z
  | none =>
    refine core (fun b => if b = a then some (.frz { cls := .type "list", data := .seq vs.toArray } (.lst (ns.map V.int))) else none) (fun b => ?_) (.inl (.inr ⟨{ cls := .type "list", data := .seq vs.toArray }, if_pos rfl⟩)) (fun b u z => ?_) (fun b z => ?_) fun _ => hk
    · by_cases hb : b = a
      · exact .inr ⟨_, _, if_pos hb⟩
      · exact .inl (if_neg hb)
    · by_cases hb : b = a
      · have z' := (if_pos hb).symm.trans z
        cases z'
        subst hb
        exact ⟨ha, by rw [List.length_map]; exact hl, vs, _, rv, ha⟩
      · have z' := (if_neg hb).symm.trans z
        cases z'
    · by_cases hb : b = a
      · exact hb
      · exact absurd (if_neg hb) z
end L2
namespace L2
open PySem PySem.Spec PyProof.Rows
noncomputable abbrev KOf {K : PySem.W.Frag} {h : Heap} (_ : K.In h) : PySem.W.Frag := K
theorem zku {l : PySem.W.OpenLaw} {n k : Nat} {q : Program} {loose : List Str} {XP : (Str → Option Value) → Heap → Prop} {YP : World → Heap → Prop} {d : DefRec} {K : Params → PySem.W.Frag} {CX : World → CXT} {sp : World → Sp} {x : Str}
    (hn : l.most = some n) (hn2 : n ≤ sizeLine) (hdf : d.params.defaults = []) (hr : Room k callerA)
    (hY : ∀ (w : World) (h : Heap), YP w h → (K w.params).In h)
    (F : ∀ (w : World) (mg : Str → Option Value) (fa : Addr) (h : Heap), (K w.params).In h → h.Ns mainGlobals mg → mg d.name = some (.ref fa) →
      ∃ fd : FuncData, (∀ (s : Shared) (u : Value), BindsTo s fd ⟨[u], []⟩ [(x, u)]) ∧
        ∀ base : Heap, (K w.params).In base → base.Ns mainGlobals mg → FnOk l.prog w (K w.params) mg base (CX w) k fa fd [x] (sp w))
    (hsp : ∀ (w : World) (H : Hp) (a : Addr) (ns : List Int), ns.length ≤ n → zor H → SqL (K w.params) H a (ns.map V.int) → sp w [.ref a] H (fun v _ => v = .bl true) fun _ _ _ => False)
    (hCX : ∀ (w : World) (H : Hp) (s : Shared) (e : Value) (s' : Shared), CX w [] H s (fun _ _ _ => False) e s' → False) :
    PySem.W.WalkO q loose XP YP l.row.toRowW d [] (fun f vs => PySem.call f vs) := by
  refine Att.attach_call hn hdf fun w s₀ s₁ mg mb fa o pm cd doc a vs ns G Y ho hd hcd hmg hobj hints hlen hg => ?_
  have KX := hY w _ Y
  obtain ⟨fd, hb, hF⟩ := F w mg fa _ KX G.T.g hmg
  exact ziL KX G.T.g G.T.b G.T.builtins G.T.nolimit hg hobj hints (Nat.le_trans hlen hn2) hr hF hb (fun H hO hS => hsp w H a ns hlen hO hS) fun H e s' => hCX w H s₁ e s'
theorem ziM {l : PySem.W.OpenLaw} {n k : Nat} {q : Program} {loose : List Str} {XP : (Str → Option Value) → Heap → Prop} {YP : World → Heap → Prop} {d : DefRec} {K : Params → PySem.W.Frag} {CX : CXT} {sp : PySem.W.Frag → Sp} {x : Str}
    (hn : l.most = some n) (hn2 : n ≤ sizeLine) (hdf : d.params.defaults = []) (hr : Room k callerA)
    (hY : ∀ (w : World) (h : Heap), YP w h → (K w.params).In h)
    (F : ∀ (w : World) (mg : Str → Option Value) (fa : Addr) (h : Heap), (K w.params).In h → h.Ns mainGlobals mg → mg d.name = some (.ref fa) →
      ∃ fd : FuncData, (∀ (s : Shared) (u : Value), BindsTo s fd ⟨[u], []⟩ [(x, u)]) ∧
        ∀ base : Heap, (K w.params).In base → base.Ns mainGlobals mg → FnOk l.prog w (K w.params) mg base CX k fa fd [x] (sp (K w.params)))
    (hsp : ∀ (K : PySem.W.Frag) (H : Hp) (a : Addr) (ns : List Int), ns.length ≤ n → zor H → SqL K H a (ns.map V.int) → sp K [.ref a] H (fun v _ => v = .bl true) fun _ _ _ => False)
    (hCX : ∀ (H : Hp) (s : Shared) (e : Value) (s' : Shared), CX [] H s (fun _ _ _ => False) e s' → False) :
    PySem.W.WalkO q loose XP YP l.row.toRowW d [] (fun f vs => PySem.call f vs) :=
  zku (K := K) (CX := fun _ => CX) (sp := fun w => sp (K w.params)) hn hn2 hdf hr hY F (fun w H a ns h1 h2 h3 => hsp (K w.params) H a ns h1 h2 h3) fun _ H s e s' => hCX H s e s'
end L2
namespace L2
open PySem PySem.Spec PyProof.Rows
noncomputable def zag (s : Stmt) : Arguments := match s with
  | .FunctionDef _ a _ _ _ _ _ _ _ _ => a
  | _ => { posonlyargs := [], args := [], vararg := none, kwonlyargs := [], kw_defaults := [], kwarg := none, defaults := [] }
noncomputable def zae (s : Stmt) : List Stmt := match s with
  | .FunctionDef _ _ b _ _ _ _ _ _ _ => b
  | _ => []
noncomputable def zaa (s : Stmt) : Scope := match s with
  | .FunctionDef _ _ _ _ _ _ sc _ _ _ => sc
  | _ => { kind := .function, names := [], isGenerator := false, isCoroutine := false }
noncomputable abbrev CX0 : CXT := fun _ _ _ _ _ _ => False
noncomputable abbrev E0 : XK := fun _ _ _ => False
theorem zqg {X : Cx} : zcR CX0 X E0 := fun _ _ _ _ _ _ _ h => h.elim
structure Fun (K : PySem.W.Frag) (x qual : Str) (st : Stmt) (f : Addr) (fd : FuncData) : Prop where
  ex : ∃ (oc : Value) (od : Option Addr) (kV doc pm : Value) (an : Option Addr) (cdv ct : Value) (osl : Array (Option Value)),
    fd = PySem.W.fnOf x qual (zag st) (zae st) (zaa st) .none kV doc pm an cdv ct ∧ K.lookup f = some ⟨oc, od, .func fd, osl⟩ ∧ PySem.W.codeIn K cdv qual = true
  kp : PySem.W.keepIn K (.ref f) = true
section
variable {P : Program} {w : World} {K : PySem.W.Frag} {mg : Str → Option Value} {base : Heap}
theorem Fun.ok {x qual : Str} {st : Stmt} {f : Addr} {fd : FuncData} {N ps : List Str} {k : Nat} {sp : Sp} (F : Fun K x qual st f fd) (S : FnScope N ps (zaa st)) (len : ∀ vs H Q E, sp vs H Q E → vs.length = ps.length)
    (hbody : ∀ (cdv : Value) (A : Around) (outer : List Env) (s : Shared) (H : Hp) (vs : List V) (Q : VK) (E : XK), Room k (A.deeper (envOfC qual (zaa st) s.heap.objs.size f cdv)) → sp vs H Q E →
      ∃ t, PSs (zbo CX0 P w K mg base N qual (zaa st) f cdv A outer s H E).nox (zae st) t ∧ t { nx := fun _ H' => Q .non H', rt := Q } (zbq N vs) H) : FnOk P w K mg base CX0 (k + 1) f fd ps sp := by
  obtain ⟨oc, od, kV, doc, pm, an, cdv, ct, osl, rfl, lk, hcd⟩ := F.ex
  refine zmj lk hcd S len fun A outer s H vs Q E hr hsp => ?_
  obtain ⟨t, h, q⟩ := hbody cdv A outer s H vs Q E hr hsp
  exact ⟨t, h.nox, q⟩
theorem Fun.binds {x qual : Str} {st : Stmt} {f : Addr} {fd : FuncData} {ps : List Str} (F : Fun K x qual st f fd)
    (h : ∀ (kV doc pm : Value) (an : Option Addr) (cdv ct : Value) (us : List Value), us.length = ps.length → bindArgs (PySem.W.fnOf x qual (zag st) (zae st) (zaa st) .none kV doc pm an cdv ct) ⟨us, []⟩ = pure (ps.zip us)) : Binds K fd ps [] := by
  obtain ⟨oc, od, kV, doc, pm, an, cdv, ct, osl, rfl, lk, hcd⟩ := F.ex
  exact .all (h kV doc pm an cdv ct)
theorem zan {x qual : Str} {st : Stmt} {f : Addr} {oc : Value} {od an : Option Addr} {osl : Array (Option Value)} {kV doc pm cdv ct : Value} (l : K.lookup f = some ⟨oc, od, .func (PySem.W.fnOf x qual (zag st) (zae st) (zaa st) .none kV doc pm an cdv ct), osl⟩)
    (c : PySem.W.codeIn K cdv qual = true) (k : PySem.W.keepIn K (.ref f) = true) : Fun K x qual st f (PySem.W.fnOf x qual (zag st) (zae st) (zaa st) .none kV doc pm an cdv ct) := ⟨⟨oc, od, kV, doc, pm, an, cdv, ct, osl, rfl, l, c⟩, k⟩
end
theorem zeE {n : Nat} (h : n ≤ 1000) : n < sizeLine := Nat.lt_of_le_of_lt h (by decide)
noncomputable def Same (H H' : Hp) : Prop := ∀ b o, H b = some o → H' b = some o
theorem Same.refl (H : Hp) : Same H H := fun _ _ h => h
theorem Same.trans {H H1 H2 : Hp} (a : Same H H1) (b : Same H1 H2) : Same H H2 := fun c o h => b c o (a c o h)
theorem Same.free {H H' : Hp} (e : Same H H') {l : Addr} (h : H' l = Option.none) : H l = Option.none := by
  cases q : H l with
  | none => rfl
  | some o =>
    rw [e l o q] at h
    cases h
theorem Same.seq {K : PySem.W.Frag} {H H' : Hp} {a : Addr} {xs : List V} (e : Same H H') (h : SqL K H a xs) : SqL K H' a xs := by
  rcases h with (h | ⟨o, h⟩) | h
  · exact .inl (.inl (e _ _ h))
  · exact .inl (.inr ⟨o, e _ _ h⟩)
  · exact .inr h
end L2
namespace L2.LW
open PySem
set_option genSizeOf false
inductive D where
  | int (i : Int) | bl (b : Bool) | non | str (x : Str) | tup (l : List D) | lst (l : List D)
  | dct (t : Bool) (ks vs : List D)
mutual
noncomputable def eqD : D → D → Bool
  | .int a, .int b => a == b
  | .bl a, .bl b => a == b
  | .int a, .bl b => a == (if b then 1 else 0)
  | .bl a, .int b => (if a then 1 else 0) == b
  | .non, .non => true
  | .str a, .str b => a == b
  | .tup xs, .tup ys => zdW xs ys
  | .lst xs, .lst ys => zdW xs ys
  | _, _ => false
noncomputable def zdW : List D → List D → Bool
  | [], [] => true
  | x :: xs, y :: ys => eqD x y && zdW xs ys
  | _, _ => false
end
mutual
noncomputable def plain : D → Bool
  | .lst _ => false
  | .dct _ _ _ => false
  | .tup l => zaT l
  | _ => true
noncomputable def zaT : List D → Bool
  | [] => true
  | x :: xs => plain x && zaT xs
end
inductive SV where
  | val (d : D) | obj (o : Bool) (d : D) | io (d : D)
noncomputable abbrev SV.lis (o : Bool) (ds : List D) : SV := .obj o (.lst ds)
noncomputable def toD : SV → Option D
  | .val d => some d
  | .obj true d => some d
  | _ => none
noncomputable def za0 : SV → D
  | .val d => d
  | .obj _ d => d
  | .io d => d
noncomputable def SV.lent : SV → Bool
  | .val _ => false
  | .obj true _ => false
  | _ => true
noncomputable def zbr : D → Bool
  | .lst ds => zaT ds
  | .dct _ _ vs => zaT vs
  | d => plain d
noncomputable def SV.plain : SV → Bool
  | .val d => LW.plain d
  | .obj _ d => zbr d
  | .io _ => false
noncomputable abbrev Env := List (Option SV)
inductive Ty where
  | bool | int | str | list | tuple
  deriving DecidableEq
inductive Prim where
  | add | sub | mul | fdiv | mod | neg | eq | ne | lt | le | gt | ge | isN | notN | inn | nin | idx | len | abs | min2 | max2 | sorted | skeys | cutT | cutF | addT | mulT | addS | join0 | splitN | eqS | neS | toList | toTup | all | inst (t : Ty) | cutTo | maxL | minL | sumL | intOf
set_option genInjectivity false
mutual
inductive E where
  | int (i : Int) | bl (b : Bool) | non | str (x : Str)
  | var (i : Nat)
  | prim (p : Prim) (es : Es)
  | tup (es : Es) | lst (es : Es)
  | and (a b : E) | or (a b : E) | not (a : E)
  | chain (p q : Prim) (a b c : E)
  | ite (c a b : E)
  | call (f : Nat) (es : Es)
  | comp (rng : Bool) (src : Es) (cond elt : E)
  | dnew (t : Bool) | done (t : Bool) (k v : E)
inductive Es where
  | nil | cons (e : E) (es : Es)
end
set_option genInjectivity true
noncomputable def zcT : Ty → D → Bool
  | .bool, .bl _ => true
  | .int, .int _ => true
  | .int, .bl _ => true
  | .str, .str _ => true
  | .list, .lst _ => true
  | .tuple, .tup _ => true
  | _, _ => false
noncomputable def ints? : List D → Option (List Int)
  | [] => some []
  | .int i :: r => (ints? r).map (i :: ·)
  | _ => none
noncomputable def lexLt : List Int → List Int → Bool
  | _, [] => false
  | [], _ :: _ => true
  | x :: xs, y :: ys => if x = y then lexLt xs ys else decide (x < y)
noncomputable def ixN (n : Nat) (i : Int) : Option Nat := if 0 ≤ i then (if i < n then some i.toNat else none) else if -(n : Int) ≤ i then some (i + n).toNat else none
noncomputable def atI {α : Type} (xs : List α) (i : Int) : Option α := (ixN xs.length i).bind fun j => xs[j]?
noncomputable def bools? : List D → Option (List Bool)
  | [] => some []
  | .bl i :: r => (bools? r).map (i :: ·)
  | _ => none
noncomputable def line : Nat := 16777216
noncomputable def zfC : D → Option (List D)
  | .tup l => some l
  | .lst l => some l
  | _ => none
noncomputable def tups? : List D → Option (List (List Int))
  | [] => some []
  | .tup l :: r => (ints? l).bind fun x => (tups? r).map (x :: ·)
  | _ => none
noncomputable def zrZ (x : List Int) : List (List Int) → List (List Int)
  | [] => [x]
  | y :: r => if lexLt x y then x :: y :: r else y :: zrZ x r
noncomputable def zkv : List (List Int) → List (List Int)
  | [] => []
  | x :: r => zrZ x (zkv r)
noncomputable def zqh (l : List Int) : List Int := l.mergeSort (fun a b => decide (a ≤ b))
noncomputable def za2 : Nat → D → Bool
  | _, .int _ => true
  | _, .bl _ => true
  | _, .non => true
  | _, .str _ => false
  | 0, _ => false
  | n + 1, .tup l => l.all (za2 n)
  | n + 1, .lst l => l.all (za2 n)
  | _ + 1, .dct _ _ _ => false
noncomputable def zbg : Bool → D → Bool
  | false, .int _ => true
  | true, .tup l => (ints? l).isSome
  | _, _ => false
noncomputable def kix (ks : List D) (k : D) : Option Nat := ks.findIdx? fun x => eqD x k
noncomputable def zmq (ks vs : List D) (k : D) : Option D := (kix ks k).bind fun i => vs[i]?
noncomputable def zlB (t : Bool) (ks vs : List D) (k v : D) : D := if (kix ks k).isSome then .dct t ks (List.zipWith (fun k' v' => if eqD k' k then v else v') ks vs) else .dct t (ks ++ [k]) (vs ++ [v])
noncomputable def zbh (r : Int) : Option SV := some (.val (.int r))
noncomputable def zdC (r : Bool) : Option SV := some (.val (.bl r))
noncomputable def zqi : List D → Option SV
  | [.int a, .int b] => zbh (a + b)
  | [.lst a, .lst b] => if a.length + b.length ≤ line then some (SV.obj true (.lst (a ++ b))) else none
  | _ => none
noncomputable def zqj : List D → Option SV
  | [.int a, .int b] => zbh (a - b)
  | _ => none
noncomputable def zsM : List D → Option SV
  | [.int a, .int b] => if (-(2 ^ 64) < a ∧ a < 2 ^ 64) ∨ (-(2 ^ 64) < b ∧ b < 2 ^ 64) then zbh (a * b) else none
  | _ => none
noncomputable def zqk : List D → Option SV
  | [.int a, .int b] => if 0 < b ∧ b < 1073741824 then zbh (a / b) else none
  | _ => none
noncomputable def zos : List D → Option SV
  | [.int a, .int b] => if 0 < b then zbh (a % b) else none
  | _ => none
noncomputable def zql : List D → Option SV
  | [.int a] => zbh (-a)
  | _ => none
noncomputable def pEq : List D → Option SV
  | [a, b] => if za2 8 a && za2 8 b then zdC (eqD a b) else none
  | _ => none
noncomputable def pNe : List D → Option SV
  | [a, b] => if za2 8 a && za2 8 b then zdC (!eqD a b) else none
  | _ => none
noncomputable def pLt : List D → Option SV
  | [.int a, .int b] => zdC (decide (a < b))
  | [.tup a, .tup b] => (ints? a).bind fun x => (ints? b).bind fun y => zdC (lexLt x y)
  | _ => none
noncomputable def pLe : List D → Option SV
  | [.int a, .int b] => zdC (decide (a ≤ b))
  | _ => none
noncomputable def pGt : List D → Option SV
  | [.int a, .int b] => zdC (decide (b < a))
  | _ => none
noncomputable def pGe : List D → Option SV
  | [.int a, .int b] => zdC (decide (b ≤ a))
  | _ => none
noncomputable def zeF : D → Bool
  | .non => true
  | _ => false
noncomputable def zr0 : List D → Option SV
  | [d] => zdC (zeF d)
  | _ => none
noncomputable def zmr : List D → Option SV
  | [d] => zdC (!zeF d)
  | _ => none
noncomputable def pIn : List D → Option SV
  | [x, .dct t ks _] => if zbg t x then zdC (kix ks x).isSome else none
  | [x, .tup l] => if za2 8 x && l.all (za2 8) then zdC (l.any fun y => eqD y x) else none
  | [x, .lst l] => if za2 8 x && l.all (za2 8) then zdC (l.any fun y => eqD y x) else none
  | _ => none
noncomputable def zot : List D → Option SV
  | [x, .dct t ks _] => if zbg t x then zdC (!(kix ks x).isSome) else none
  | [x, .tup l] => if za2 8 x && l.all (za2 8) then zdC (!l.any fun y => eqD y x) else none
  | [x, .lst l] => if za2 8 x && l.all (za2 8) then zdC (!l.any fun y => eqD y x) else none
  | _ => none
noncomputable def zqm : List D → Option SV
  | [.dct t ks vs, k] => if zbg t k then (zmq ks vs k).map .val else none
  | [.tup l, .int i] => (atI l i).map .val
  | [.lst l, .int i] => (atI l i).map .val
  | _ => none
noncomputable def zqn : List D → Option SV
  | [.tup l] => zbh l.length
  | [.lst l] => zbh l.length
  | _ => none
noncomputable def zsN : List D → Option SV
  | [.int i] => zbh (if i < 0 then -i else i)
  | _ => none
noncomputable def zqo : List D → Option SV
  | [.int i, .int j] => zbh (if j < i then j else i)
  | _ => none
noncomputable def zqp : List D → Option SV
  | [.int i, .int j] => zbh (if j > i then j else i)
  | _ => none
noncomputable def zkw (l : List D) : Option SV := match ints? l with
  | some ns => if ns.length < 64 then some (.obj true (.lst ((zqh ns).map .int))) else none
  | none => (tups? l).bind fun ks => if ks.length < 64 ∧ ks.Nodup ∧ ks.all (fun k => !k.isEmpty) = true then some (.obj true (.lst ((zkv ks).map fun k => .tup (k.map .int)))) else none
noncomputable def zkx : List D → Option SV
  | [.lst l] => zkw l
  | _ => none
noncomputable def zky (l : List D) : Option SV := (tups? l).bind fun ks => if ks.length < 64 ∧ ks.Nodup ∧ ks.all (fun k => !k.isEmpty) = true then some (.obj true (.lst ((zkv ks).map fun k => .tup (k.map .int)))) else none
noncomputable def zms : List D → Option SV
  | [.dct true ks _] => zky ks
  | _ => none
noncomputable def zqq : List D → Option SV
  | [.tup l, .int k] => if 0 ≤ k ∧ k < l.length then some (.val (.tup (l.take k.toNat))) else none
  | _ => none
noncomputable def zqr : List D → Option SV
  | [.tup l, .int k] => if 0 < k ∧ 0 < l.length then some (.val (.tup (l.drop k.toNat))) else none
  | _ => none
noncomputable def zqs : List D → Option SV
  | [.tup a, .tup b] => if a.length + b.length ≤ 10000000 then some (.val (.tup (a ++ b))) else none
  | _ => none
noncomputable def zqt : List D → Option SV
  | [.tup l, .int k] => if k = 2 ∧ l.length ≤ 1000 ∧ l ≠ [] then some (.val (.tup (l ++ l))) else none
  | _ => none
noncomputable def zkz : List D → Option SV
  | [.str a, .str b] => if a.length + b.length ≤ 10000000 then some (.val (.str (a ++ b))) else none
  | _ => none
noncomputable def strs? : List D → Option (List Str)
  | [] => some []
  | .str x :: r => (strs? r).map (x :: ·)
  | _ => none
noncomputable def zkA (ys : List Str) : Str := ⟨(ys.flatMap fun y => y.cps.toList).toArray⟩
noncomputable def zhu : List D → Option SV
  | [.lst l] => (strs? l).bind fun ys => if (ys.map (·.length)).sum ≤ 10000000 then some (.val (.str (zkA ys))) else none
  | _ => none
noncomputable def zg1 (c : Nat) : List Nat → List (List Nat)
  | [] => [[]]
  | a :: r => if a = c then [] :: zg1 c r else match zg1 c r with
    | p :: ps => (a :: p) :: ps
    | [] => [[a]]
noncomputable def zf6 (x : Str) : List Str := (zg1 10 x.cps.toList).map fun l => ⟨l.toArray⟩
noncomputable def zcU : List D → Option SV
  | [.str x] => if x.length ≤ 10000000 then some (.obj true (.lst ((zf6 x).map D.str))) else none
  | _ => none
noncomputable def zf7 (x : Str) : List D := x.cps.toList.map fun c => D.str ⟨#[c]⟩
noncomputable def zou : List D → Option SV
  | [.str a, .str b] => some (.val (.bl (decide (a = b))))
  | _ => none
noncomputable def zov : List D → Option SV
  | [.str a, .str b] => some (.val (.bl (!decide (a = b))))
  | _ => none
noncomputable def zkB : List D → Option SV
  | [.tup l] => some (SV.obj true (.lst l))
  | [.lst l] => some (SV.obj true (.lst l))
  | _ => none
noncomputable def zhv : List D → Option SV
  | [.tup l] => some (.val (.tup l))
  | [.lst l] => some (.val (.tup l))
  | _ => none
noncomputable def zqu : List D → Option SV
  | [.lst l] => (bools? l).bind fun bs => zdC (bs.all id)
  | _ => none
noncomputable def zmt (t : Ty) : List D → Option SV
  | [d] => zdC (zcT t d)
  | _ => none
noncomputable def zmu : List D → Option SV
  | [.lst l, .int k] => if 0 ≤ k then some (SV.obj true (.lst (l.take k.toNat))) else none
  | _ => none
noncomputable def zkC : List D → Option SV
  | [.lst l] => (ints? l).bind fun ns => match ns with
    | [] => none
    | n :: r => zbh (r.foldl max n)
  | _ => none
noncomputable def zqv : List D → Option SV
  | [.lst l] => (ints? l).bind fun ns => match ns with
    | [] => none
    | n :: r => zbh (r.foldl min n)
  | _ => none
noncomputable def zqw : List D → Option SV
  | [.lst l] => (ints? l).bind fun ns => zbh ns.sum
  | [.tup l] => (ints? l).bind fun ns => zbh ns.sum
  | _ => none
noncomputable def zmv : List D → Option SV
  | [.int i] => zbh i
  | [.bl b] => zbh (if b then 1 else 0)
  | _ => none
noncomputable def zai : Prim → List D → Option SV
  | .add => zqi | .sub => zqj | .mul => zsM | .fdiv => zqk | .mod => zos | .neg => zql | .eq => pEq | .ne => pNe | .lt => pLt | .le => pLe | .gt => pGt | .ge => pGe
  | .isN => zr0 | .notN => zmr | .inn => pIn | .nin => zot | .idx => zqm | .len => zqn | .abs => zsN | .min2 => zqo | .max2 => zqp
  | .sorted => zkx | .skeys => zms | .cutT => zqq | .cutF => zqr | .addT => zqs | .mulT => zqt | .addS => zkz | .join0 => zhu | .splitN => zcU | .eqS => zou | .neS => zov | .toList => zkB | .toTup => zhv | .all => zqu | .inst t => zmt t | .cutTo => zmu | .maxL => zkC | .minL => zqv | .sumL => zqw | .intOf => zmv
noncomputable def zaX : SV → Option Bool
  | .val (.bl b) => some b
  | .val (.int i) => some (i != 0)
  | .val .non => some false
  | .val (.tup l) => some (!l.isEmpty)
  | .val (.lst l) => some (!l.isEmpty)
  | .obj _ (.lst l) => some (!l.isEmpty)
  | _ => none
noncomputable def look (ρ : Env) (i : Nat) : Option SV := match ρ[i]? with
  | some (some (.val d)) => some (.val d)
  | some (some (.obj _ d)) => some (.obj false d)
  | some (some (.io d)) => some (.obj false d)
  | _ => none
noncomputable def free (ρ : Env) (i : Nat) : Bool := match ρ[i]? with
  | some (some (.io _)) => false
  | _ => true
noncomputable def SV.cell : SV → Option D
  | .obj true d => some d
  | .io d => some d
  | _ => none
noncomputable def SV.put : SV → D → SV
  | .io _, d => .io d
  | _, d => .obj true d
noncomputable def inR (j : Int) : Prop := -(2 ^ 62) ≤ j ∧ j < 2 ^ 62
noncomputable instance (j : Int) : Decidable (inR j) := by unfold inR; exact inferInstance
noncomputable def zaJ : Bool → List SV → Option (List D)
  | false, [r] => zfC (za0 r)
  | true, [.val (.int n)] => if inR n then some ((List.range n.toNat).map fun (k : Nat) => D.int (0 + (k : Int))) else none
  | true, [.val (.int a), .val (.int b)] => if inR a ∧ inR b then some ((List.range (b - a).toNat).map fun (k : Nat) => D.int (a + (k : Int))) else none
  | _, _ => none
noncomputable def zcC (test : D → Option Bool) (elt : D → Option SV) : List D → Option (List D)
  | [] => some []
  | d :: r => (test d).bind fun b => match b with
    | true => (elt d).bind fun x => (toD x).bind fun y => (zcC test elt r).map (y :: ·)
    | false => zcC test elt r
noncomputable def zce (rs : List SV) (r : Option SV) : Option SV := r.bind fun x => if rs.any SV.lent && !x.plain then none else some x
noncomputable def zfr : List SV → Option (List D)
  | [] => some []
  | r :: rs => (toD r).bind fun d => (zfr rs).map (d :: ·)
mutual
noncomputable def evE (fn : Nat → List D → Option SV) : E → Env → Option SV
  | .int i, _ => some (.val (.int i))
  | .bl b, _ => some (.val (.bl b))
  | .non, _ => some (.val .non)
  | .str x, _ => some (.val (.str x))
  | .var i, ρ => look ρ i
  | .prim p es, ρ => (zbp fn es ρ).bind fun rs => zai p (rs.map za0)
  | .tup es, ρ => (zbp fn es ρ).bind fun rs => (zfr rs).map fun ds => .val (.tup ds)
  | .lst es, ρ => (zbp fn es ρ).bind fun rs => (zfr rs).map fun ds => SV.obj true (.lst ds)
  | .and a b, ρ => (evE fn a ρ).bind fun r => match r with
    | .val (.bl true) => evE fn b ρ
    | .val (.bl false) => some (.val (.bl false))
    | _ => none
  | .or a b, ρ => (evE fn a ρ).bind fun r => match r with
    | .val (.bl true) => some (.val (.bl true))
    | .val (.bl false) => evE fn b ρ
    | _ => none
  | .not a, ρ => (evE fn a ρ).bind fun r => match r with
    | .val (.bl b) => some (.val (.bl (!b)))
    | _ => none
  | .chain p q a b c, ρ => (evE fn a ρ).bind fun x => (evE fn b ρ).bind fun y => (zai p [za0 x, za0 y]).bind fun z => match z with
    | .val (.bl true) => (evE fn c ρ).bind fun w => zai q [za0 y, za0 w]
    | .val (.bl false) => some (.val (.bl false))
    | _ => none
  | .ite c a b, ρ => (evT fn c ρ).bind fun k => if k then evE fn a ρ else evE fn b ρ
  | .call f es, ρ => (zbp fn es ρ).bind fun rs => zce rs (fn f (rs.map za0))
  | .dnew t, _ => some (.obj true (.dct t [] []))
  | .done t k v, ρ => (evE fn k ρ).bind fun x => (evE fn v ρ).bind fun y => (toD x).bind fun a => (toD y).bind fun b => if zbg t a then some (.obj true (.dct t [a] [b])) else none
  | .comp rng src cond elt, ρ => (zbp fn src ρ).bind fun rs => (zaJ rng rs).bind fun ds =>
    if ds.length ≤ line then (zcC (fun d => evT fn cond (some (.val d) :: ρ)) (fun d => evE fn elt (some (.val d) :: ρ)) ds).map fun l => SV.obj true (.lst l) else none
noncomputable def zbp (fn : Nat → List D → Option SV) : Es → Env → Option (List SV)
  | .nil, _ => some []
  | .cons e es, ρ => (evE fn e ρ).bind fun r => (zbp fn es ρ).map (r :: ·)
noncomputable def evT (fn : Nat → List D → Option SV) : E → Env → Option Bool
  | .and a b, ρ => (evT fn a ρ).bind fun k => if k then evT fn b ρ else some false
  | .or a b, ρ => (evT fn a ρ).bind fun k => if k then some true else evT fn b ρ
  | .not a, ρ => (evT fn a ρ).map (!·)
  | .int i, _ => some (i != 0)
  | .bl b, _ => some b
  | .non, _ => some false
  | .str _, _ => none
  | .var i, ρ => (look ρ i).bind zaX
  | .prim p es, ρ => (zbp fn es ρ).bind fun rs => (zai p (rs.map za0)).bind zaX
  | .tup _, _ => none
  | .lst _, _ => none
  | .chain p q a b c, ρ => (evE fn a ρ).bind fun x => (evE fn b ρ).bind fun y => (zai p [za0 x, za0 y]).bind fun z => match z with
    | .val (.bl true) => (evE fn c ρ).bind fun w => (zai q [za0 y, za0 w]).bind zaX
    | .val (.bl false) => some false
    | _ => none
  | .ite _ _ _, _ => none
  | .call f es, ρ => (zbp fn es ρ).bind fun rs => (zce rs (fn f (rs.map za0))).bind zaX
  | .comp rng src cond elt, ρ => (zbp fn src ρ).bind fun rs => (zaJ rng rs).bind fun ds =>
    if ds.length ≤ line then (zcC (fun d => evT fn cond (some (.val d) :: ρ)) (fun d => evE fn elt (some (.val d) :: ρ)) ds).map fun l => !l.isEmpty else none
  | .dnew _, _ => none
  | .done _ _ _, _ => none
end
inductive Ans where
  | ok (r : SV) (outs : List D)
  | ex (c : Nat)
noncomputable def prj (fa : Nat → List D → Option Ans) (f : Nat) (ds : List D) : Option SV := match fa f ds with
  | some (.ok r []) => some r
  | _ => none
set_option genInjectivity false
inductive MA where
  | nil | e (c : E) (r : MA) | s (i : Nat) (r : MA) | n (t : Bool) (r : MA)
inductive AV where
  | e (d : D) | l (ds : List D) | s (i : Nat) (d : D) | n (t : Bool)
inductive M where
  | call (f : Nat) (ma : MA)
  | op (p : Prim) (a : E) (m : M)
set_option genInjectivity true
noncomputable def ziN : D → Bool
  | .dct _ _ vs => zaT vs
  | _ => false
noncomputable def SV.fine : SV → Bool
  | .val d => LW.plain d
  | .obj true d => zbr d
  | _ => false
noncomputable def ziO : SV → Option AV
  | .val (.lst ds) => if zaT ds then some (.l ds) else none
  | .val d => if plain d then some (.e d) else none
  | .obj _ (.lst ds) => if zaT ds then some (.l ds) else none
  | _ => none
noncomputable def zcV (ρ : Env) (i : Nat) : Option D := match ρ[i]? with
  | some (some x) => x.cell
  | _ => none
noncomputable def zg2 (fn : Nat → List D → Option SV) : MA → Env → Option (List AV)
  | .nil, _ => some []
  | .e c r, ρ => (evE fn c ρ).bind fun x => (ziO x).bind fun a => (zg2 fn r ρ).map (a :: ·)
  | .s i r, ρ => (zcV ρ i).bind fun d => if ziN d then (zg2 fn r ρ).map (.s i d :: ·) else none
  | .n t r, ρ => (zg2 fn r ρ).map (.n t :: ·)
noncomputable def zlC : AV → D
  | .e d => d
  | .l ds => .lst ds
  | .s _ d => d
  | .n t => .dct t [] []
noncomputable def zow (ρ : Env) (i : Nat) (d : D) : Env := match ρ[i]? with
  | some (some x) => ρ.set i (some (x.put d))
  | _ => ρ
noncomputable def zfs (ρ : Env) : List AV → List D → Option Env
  | [], [] => some ρ
  | .s i _ :: r, d :: ds => zfs (zow ρ i d) r ds
  | .n _ :: r, _ :: ds => zfs ρ r ds
  | .e _ :: r, ds => zfs ρ r ds
  | .l _ :: r, ds => zfs ρ r ds
  | _, _ => none
noncomputable def evM (fa : Nat → List D → Option Ans) : M → Env → Option (SV × Env)
  | .call f ma, ρ => (zg2 (prj fa) ma ρ).bind fun xs => (fa f (xs.map zlC)).bind fun a => match a with
    | .ok r outs => if r.fine && outs.all zbr then (zfs ρ xs outs).map fun ρ' => (r, ρ') else none
    | .ex _ => none
  | .op p a m, ρ => (evE (prj fa) a ρ).bind fun x => match x with
    | .val d => if plain d then (evM fa m ρ).bind fun y => (zai p [d, za0 y.1]).map fun z => (z, y.2) else none
    | _ => none
set_option genInjectivity false
mutual
inductive S where
  | expr (e : E) | asg (i : Nat) (e : E) | mov (i j : Nat) | app (i : Nat) (e : E) | dset (i : Nat) (k v : E) | dupd (i j : Nat) | unp3 (i j k : Nat) (e : E) | exprM (m : M) | asgM (i : Nat) (m : M) | ifO (c : E) (m : M) (a b : Ss) | ret (e : E) | retV (i : Nat) | retN
  | ifs (c : E) (a b : Ss) | for_ (i : Nat) (rng : Bool) (src : Es) (body : Ss) | forV (i j : Nat) (body : Ss) | forU (i j : Nat) (rng : Bool) (src : Es) (body : Ss) | forE (i j : Nat) (src : E) (body : Ss) | while_ (c : E) (body : Ss) | frz (js : List Nat) (s : S) | brk | cnt | pass | stop
inductive Ss where
  | nil | cons (s : S) (ss : Ss)
end
set_option genInjectivity true
inductive Fl where
  | nx | br | ct | rt (r : SV)
noncomputable def zox (i : Nat) (body : Env → Option (Fl × Env)) : List D → Env → Option (Fl × Env)
  | [], ρ => some (.nx, ρ)
  | d :: r, ρ => (body (ρ.set i (some (.val d)))).bind fun x => match x.1 with
    | .nx => zox i body r x.2
    | .ct => zox i body r x.2
    | .br => some (.nx, x.2)
    | .rt v => some (.rt v, x.2)
noncomputable def zmw : D → Bool
  | .tup [.int a, .int b] => decide (0 ≤ a ∧ a ≤ 7 ∧ 0 ≤ b ∧ b ≤ 7)
  | _ => false
noncomputable def zhw (ks vs : List D) : List D → List D → List D × List D
  | k :: ks2, v :: vs2 => match zlB true ks vs k v with
    | .dct _ a b => zhw a b ks2 vs2
    | _ => (ks, vs)
  | _, _ => (ks, vs)
noncomputable def zqx (ρ : Env) (i : Nat) (x : SV) : Option D → Option D → Option (Fl × Env)
  | some (.dct true ks vs), some (.dct true ks2 vs2) => if ks2.all zmw && decide (ks.length + ks2.length < line) then some (.nx, ρ.set i (some (x.put (.dct true (zhw ks vs ks2 vs2).1 (zhw ks vs ks2 vs2).2)))) else none
  | _, _ => none
noncomputable def zmx (ρ : Env) (i j : Nat) : Option (Fl × Env) := if i = j then none else match ρ[i]? with
  | some (some x) => zqx ρ i x x.cell (zcV ρ j)
  | _ => none
noncomputable def zmy (ρ : Env) (i j k : Nat) : SV → Option (Fl × Env)
  | .obj true (.lst [a, b, c]) => if free ρ i && free ρ j && free ρ k then some (.nx, ((ρ.set i (some (.val a))).set j (some (.val b))).set k (some (.val c))) else none
  | _ => none
noncomputable def zbI : Nat → List D → List D
  | _, [] => []
  | k, d :: r => .tup [.int k, d] :: zbI (k + 1) r
noncomputable def ziP : SV → Option (List D)
  | .obj true (.lst l) => some (zbI 0 l)
  | .val (.str x) => some (zbI 0 (zf7 x))
  | _ => none
noncomputable def zdq (i j : Nat) (body : Env → Option (Fl × Env)) : List D → Env → Option (Fl × Env)
  | [], ρ => some (.nx, ρ)
  | .tup [a, b] :: r, ρ => (body ((ρ.set i (some (.val a))).set j (some (.val b)))).bind fun x => match x.1 with
    | .nx => zdq i j body r x.2
    | .ct => zdq i j body r x.2
    | .br => some (.nx, x.2)
    | .rt v => some (.rt v, x.2)
  | _, _ => none
noncomputable def zhx (test : Env → Option Bool) (body : Env → Option (Fl × Env)) : Nat → Env → Option (Fl × Env)
  | 0, _ => none
  | n + 1, ρ => (test ρ).bind fun b => if b then (body ρ).bind fun x => (match x.1 with
    | .nx => zhx test body n x.2
    | .ct => zhx test body n x.2
    | .br => some (.nx, x.2)
    | .rt v => some (.rt v, x.2)) else some (.nx, ρ)
noncomputable def zhy (ρ : Env) (j : Nat) : Option (List D × Env) := match ρ[j]? with
  | some (some (.val d)) => (zfC d).map fun l => (l, ρ)
  | some (some (.obj _ (.lst ds))) => some (ds, ρ.set j (some (.val (.lst ds))))
  | _ => none
noncomputable def zoy (ρ : Env) (j : Nat) : Env := match ρ[j]? with
  | some (some (.obj true d)) => ρ.set j (some (.val d))
  | _ => ρ
mutual
noncomputable def exS (fa : Nat → List D → Option Ans) (fuel : Nat) : S → Env → Option (Fl × Env)
  | .expr e, ρ => (evE (prj fa) e ρ).map fun _ => (.nx, ρ)
  | .asg i e, ρ => (evE (prj fa) e ρ).bind fun r => if r.lent || !free ρ i then none else some (.nx, ρ.set i (some r))
  | .mov i j, ρ => if free ρ i then (match ρ[j]? with
    | some (some (.val d)) => some (.nx, ρ.set i (some (.val d)))
    | some (some (.obj _ d)) => some (.nx, (ρ.set j (some (.val d))).set i (some (.val d)))
    | _ => none) else none
  | .app i e, ρ => match ρ[i]? with
    | some (some x) => (match x.cell with
      | some (.lst ds) => (evE (prj fa) e ρ).bind fun r => (toD r).bind fun d => if ds.length < line then some (.nx, ρ.set i (some (x.put (.lst (ds ++ [d]))))) else none
      | _ => none)
    | _ => none
  | .dupd i j, ρ => zmx ρ i j
  | .unp3 i j k e, ρ => (evE (prj fa) e ρ).bind (zmy ρ i j k)
  | .dset i k v, ρ => match ρ[i]? with
    | some (some x) => (match x.cell with
      | some (.dct t ks vs) => (evE (prj fa) v ρ).bind fun r => (toD r).bind fun d => (evE (prj fa) k ρ).bind fun r => (toD r).bind fun a => if zbg t a && decide (ks.length < line) then some (.nx, ρ.set i (some (x.put (zlB t ks vs a d)))) else none
      | _ => none)
    | _ => none
  | .exprM m, ρ => (evM fa m ρ).map fun x => (.nx, x.2)
  | .asgM i m, ρ => (evM fa m ρ).bind fun x => if x.1.lent || !free x.2 i then none else some (.nx, x.2.set i (some (.val (za0 x.1))))
  | .ifO c m a b, ρ => (evT (prj fa) c ρ).bind fun k => if k then za4 fa fuel a ρ else (evM fa m ρ).bind fun x => (zaX x.1).bind fun k => if k then za4 fa fuel a x.2 else za4 fa fuel b x.2
  | .ret e, ρ => (evE (prj fa) e ρ).bind fun r => if r.lent then none else some (.rt r, ρ)
  | .retV i, ρ => match ρ[i]? with
    | some (some (.val d)) => some (.rt (.val d), ρ)
    | some (some (.obj _ d)) => some (.rt (.obj true d), ρ.set i none)
    | _ => none
  | .retN, ρ => some (.rt (.val .non), ρ)
  | .ifs c a b, ρ => (evT (prj fa) c ρ).bind fun k => if k then za4 fa fuel a ρ else za4 fa fuel b ρ
  | .for_ i rng src body, ρ => (zbp (prj fa) src ρ).bind fun rs => if rs.any SV.lent || !free ρ i then none else (zaJ rng rs).bind fun ds => zox i (za4 fa fuel body) ds ρ
  | .forV i j body, ρ => if free ρ i then (zhy ρ j).bind fun x => zox i (za4 fa fuel body) x.1 x.2 else none
  | .forU i j rng src body, ρ => (zbp (prj fa) src ρ).bind fun rs => if rs.any SV.lent || !free ρ i || !free ρ j then none else (zaJ rng rs).bind fun ds => zdq i j (za4 fa fuel body) ds ρ
  | .forE i j src body, ρ => (evE (prj fa) src ρ).bind fun r => if !free ρ i || !free ρ j then none else (ziP r).bind fun ds => zdq i j (za4 fa fuel body) ds ρ
  | .while_ c body, ρ => zhx (evT (prj fa) c) (za4 fa fuel body) fuel ρ
  | .frz js s, ρ => exS fa fuel s (js.foldl zoy ρ)
  | .brk, ρ => some (.br, ρ)
  | .cnt, ρ => some (.ct, ρ)
  | .pass, ρ => some (.nx, ρ)
  | .stop, _ => none
noncomputable def za4 (fa : Nat → List D → Option Ans) (fuel : Nat) : Ss → Env → Option (Fl × Env)
  | .nil, ρ => some (.nx, ρ)
  | .cons s ss, ρ => (exS fa fuel s ρ).bind fun x => match x.1 with
    | .nx => za4 fa fuel ss x.2
    | _ => some x
end
inductive Hd where
  | ret (ks : List Nat) | two (i n : Nat) (ks ks2 : List Nat)
mutual
inductive T where
  | pl (s : S) | raise (c : Nat) | raiseF (c k : Nat) | callX (i : Nat) (es : Es) | retX (i : Nat) (es : Es) | asgX (k i : Nat) (es : Es) | ifX (neg : Bool) (i : Nat) (es : Es) (a b : Ts) | ifs (c : E) (a b : Ts) | tryX (b : Ts) (k : Nat) (cs : List Nat) (h : Hd) | stuck
inductive Ts where
  | nil | cons (t : T) (ts : Ts)
end
inductive FlX where
  | fl (f : Fl) | ex (c : Nat)
noncomputable def zoz (c k : Nat) : Bool := k == c || k == 0 || k == 7
noncomputable def zhz (fa : Nat → List D → Option Ans) (i : Nat) (es : Es) (ρ : Env) : Option Ans := (zbp (prj fa) es ρ).bind fun rs => if rs.any SV.lent then none else fa i (rs.map za0)
noncomputable def zqy : Option SV → Bool
  | some (.io _) => false
  | _ => true
noncomputable def hdX (c : Nat) (ρ : Env) : Hd → Option (FlX × Env)
  | .ret ks => if ks.all (zoz c) then some (.fl (.rt (.obj true (.lst (ks.map fun _ => .bl true)))), ρ) else none
  | .two i n ks ks2 => if ρ.all zqy then some (.fl .nx, (List.replicate n none).set i (some (.obj true (.lst ((ks ++ ks2).map fun x => .bl (x == c)))))) else none
mutual
noncomputable def exT (fa : Nat → List D → Option Ans) (fuel : Nat) : T → Env → Option (FlX × Env)
  | .pl s, ρ => (exS fa fuel s ρ).map fun x => (.fl x.1, x.2)
  | .raise c, ρ => some (.ex c, ρ)
  | .raiseF c k, ρ => match look ρ k with
    | some (.val (.int i)) => if 0 ≤ i ∧ i < 1000 then some (.ex c, ρ) else none
    | _ => none
  | .callX i es, ρ => (zhz fa i es ρ).bind fun a => match a with
    | .ok _ [] => some (.fl .nx, ρ)
    | .ex c => some (.ex c, ρ)
    | _ => none
  | .retX i es, ρ => (zhz fa i es ρ).bind fun a => match a with
    | .ok r [] => if r.lent then none else some (.fl (.rt r), ρ)
    | .ex c => some (.ex c, ρ)
    | _ => none
  | .asgX k i es, ρ => (zhz fa i es ρ).bind fun a => match a with
    | .ok r [] => if r.lent || !free ρ k then none else some (.fl .nx, ρ.set k (some r))
    | .ex c => some (.ex c, ρ)
    | _ => none
  | .ifX neg i es a b, ρ => (zhz fa i es ρ).bind fun x => match x with
    | .ok (.val (.bl k)) [] => if k != neg then za9 fa fuel a ρ else za9 fa fuel b ρ
    | .ex c => some (.ex c, ρ)
    | _ => none
  | .ifs c a b, ρ => (evT (prj fa) c ρ).bind fun k => if k then za9 fa fuel a ρ else za9 fa fuel b ρ
  | .tryX b k cs h, ρ => (za9 fa fuel b ρ).bind fun x => match x.1 with
    | .fl _ => some x
    | .ex c => if cs.contains c then hdX c x.2 h else none
  | .stuck, _ => none
noncomputable def za9 (fa : Nat → List D → Option Ans) (fuel : Nat) : Ts → Env → Option (FlX × Env)
  | .nil, ρ => some (.fl .nx, ρ)
  | .cons t ts, ρ => (exT fa fuel t ρ).bind fun x => match x.1 with
    | .fl .nx => za9 fa fuel ts x.2
    | _ => some x
end
structure Fn where
  np : Nat
  nl : Nat
  body : Ss
  io : List Nat := []
  xb : Option Ts := none
noncomputable def zj1 : Option (FlX × Env) → Option Ans
  | some (.fl (.rt r), _) => some (.ok r [])
  | some (.fl .nx, _) => some (.ok (.val .non) [])
  | some (.ex c, _) => some (.ex c)
  | _ => none
noncomputable def zdD (ρ : Env) : List Nat → Option (List D)
  | [] => some []
  | i :: r => match ρ[i]? with
    | some (some (.io d)) => (zdD ρ r).map (d :: ·)
    | _ => none
noncomputable def zmz (io : List Nat) : Option (Fl × Env) → Option Ans
  | some (.rt r, ρ) => (zdD ρ io).map (Ans.ok r)
  | some (.nx, ρ) => (zdD ρ io).map (Ans.ok (.val .non))
  | _ => none
noncomputable def zbH (io : List Nat) : Nat → List D → Env
  | _, [] => []
  | k, d :: r => some (if io.contains k then .io d else .val d) :: zbH io (k + 1) r
noncomputable def zah (P : Nat → Option Fn) (fuel : Nat) : Nat → Nat → List D → Option Ans
  | 0, _, _ => none
  | n + 1, f, ds => (P f).bind fun F => if ds.length = F.np then (match F.xb with
    | none => zmz F.io (za4 (zah P fuel n) fuel F.body (zbH F.io 0 ds ++ List.replicate (F.nl - F.np) none))
    | some t => zj1 (za9 (zah P fuel n) fuel t (zbH [] 0 ds ++ List.replicate (F.nl - F.np) none))) else none
noncomputable def zbO (P : Nat → Option Fn) (fuel n : Nat) : Nat → List D → Option SV := prj (zah P fuel n)
theorem zj2 {fn i ρ} : evE fn (E.int i) ρ = (some (.val (.int i))) := id rfl
theorem zqz {fn b ρ} : evE fn (E.bl b) ρ = (some (.val (.bl b))) := id rfl
theorem zmA {fn x ρ} : evE fn (E.str x) ρ = (some (.val (.str x))) := id rfl
theorem zmB {fn i ρ} : evE fn (E.var i) ρ = (look ρ i) := id rfl
theorem zbi {fn p es ρ} : evE fn (E.prim p es) ρ = ((zbp fn es ρ).bind fun rs => zai p (rs.map za0)) := id rfl
theorem zmC {fn es ρ} : evE fn (E.tup es) ρ = ((zbp fn es ρ).bind fun rs => (zfr rs).map fun ds => .val (.tup ds)) := id rfl
theorem zmD {fn es ρ} : evE fn (E.lst es) ρ = ((zbp fn es ρ).bind fun rs => (zfr rs).map fun ds => SV.obj true (.lst ds)) := id rfl
theorem zmE {fn a b ρ} : evE fn (E.and a b) ρ = ((evE fn a ρ).bind fun r => match r with
    | .val (.bl true) => evE fn b ρ
    | .val (.bl false) => some (.val (.bl false))
    | _ => none) := id rfl
theorem ziQ {fn p q a b c ρ} : evE fn (E.chain p q a b c) ρ = ((evE fn a ρ).bind fun x => (evE fn b ρ).bind fun y => (zai p [za0 x, za0 y]).bind fun z => match z with
    | .val (.bl true) => (evE fn c ρ).bind fun w => zai q [za0 y, za0 w]
    | .val (.bl false) => some (.val (.bl false))
    | _ => none) := id rfl
theorem zmF {fn c a b ρ} : evE fn (E.ite c a b) ρ = ((evT fn c ρ).bind fun k => if k then evE fn a ρ else evE fn b ρ) := id rfl
theorem zhA {fn f es ρ} : evE fn (E.call f es) ρ = ((zbp fn es ρ).bind fun rs => zce rs (fn f (rs.map za0))) := id rfl
theorem zkD {fn rng src cond elt ρ} : evE fn (E.comp rng src cond elt) ρ = ((zbp fn src ρ).bind fun rs => (zaJ rng rs).bind fun ds =>
    if ds.length ≤ line then (zcC (fun d => evT fn cond (some (.val d) :: ρ)) (fun d => evE fn elt (some (.val d) :: ρ)) ds).map fun l => SV.obj true (.lst l) else none) := id rfl
theorem zba {fn  ρ} : zbp fn (Es.nil) ρ = (some []) := id rfl
theorem za1 {fn e es ρ} : zbp fn (Es.cons e es) ρ = ((evE fn e ρ).bind fun r => (zbp fn es ρ).map (r :: ·)) := id rfl
theorem zqA {fn a b ρ} : evT fn (E.or a b) ρ = ((evT fn a ρ).bind fun k => if k then some true else evT fn b ρ) := id rfl
theorem zmG {fn a ρ} : evT fn (E.not a) ρ = ((evT fn a ρ).map (!·)) := id rfl
theorem zqB {fn b ρ} : evT fn (E.bl b) ρ = (some b) := id rfl
theorem zhB {fn p es ρ} : evT fn (E.prim p es) ρ = ((zbp fn es ρ).bind fun rs => (zai p (rs.map za0)).bind zaX) := id rfl
theorem ziR {fn p q a b c ρ} : evT fn (E.chain p q a b c) ρ = ((evE fn a ρ).bind fun x => (evE fn b ρ).bind fun y => (zai p [za0 x, za0 y]).bind fun z => match z with
    | .val (.bl true) => (evE fn c ρ).bind fun w => (zai q [za0 y, za0 w]).bind zaX
    | .val (.bl false) => some false
    | _ => none) := id rfl
theorem zkE {fn f es ρ} : evT fn (E.call f es) ρ = ((zbp fn es ρ).bind fun rs => (zce rs (fn f (rs.map za0))).bind zaX) := id rfl
theorem zkF {fa fuel e ρ} : exS fa fuel (S.expr e) ρ = ((evE (prj fa) e ρ).map fun _ => (.nx, ρ)) := id rfl
theorem zmH {fa fuel i e ρ} : exS fa fuel (S.asg i e) ρ = ((evE (prj fa) e ρ).bind fun r => if r.lent || !free ρ i then none else some (.nx, ρ.set i (some r))) := id rfl
theorem zmI {fa fuel i j ρ} : exS fa fuel (S.mov i j) ρ = (if free ρ i then (match ρ[j]? with
    | some (some (.val d)) => some (.nx, ρ.set i (some (.val d)))
    | some (some (.obj _ d)) => some (.nx, (ρ.set j (some (.val d))).set i (some (.val d)))
    | _ => none) else none) := id rfl
theorem zj3 {fa fuel i e ρ} : exS fa fuel (S.app i e) ρ = (match ρ[i]? with
    | some (some x) => (match x.cell with
      | some (.lst ds) => (evE (prj fa) e ρ).bind fun r => (toD r).bind fun d => if ds.length < line then some (.nx, ρ.set i (some (x.put (.lst (ds ++ [d]))))) else none
      | _ => none)
    | _ => none) := id rfl
theorem zkG {fa fuel i k v ρ} : exS fa fuel (S.dset i k v) ρ = (match ρ[i]? with
    | some (some x) => (match x.cell with
      | some (.dct t ks vs) => (evE (prj fa) v ρ).bind fun r => (toD r).bind fun d => (evE (prj fa) k ρ).bind fun r => (toD r).bind fun a => if zbg t a && decide (ks.length < line) then some (.nx, ρ.set i (some (x.put (zlB t ks vs a d)))) else none
      | _ => none)
    | _ => none) := id rfl
theorem zmJ {fa fuel e ρ} : exS fa fuel (S.ret e) ρ = ((evE (prj fa) e ρ).bind fun r => if r.lent then none else some (.rt r, ρ)) := id rfl
theorem zhC {fa fuel i ρ} : exS fa fuel (S.retV i) ρ = (match ρ[i]? with
    | some (some (.val d)) => some (.rt (.val d), ρ)
    | some (some (.obj _ d)) => some (.rt (.obj true d), ρ.set i none)
    | _ => none) := id rfl
theorem zmK {fa fuel c a b ρ} : exS fa fuel (S.ifs c a b) ρ = ((evT (prj fa) c ρ).bind fun k => if k then za4 fa fuel a ρ else za4 fa fuel b ρ) := id rfl
theorem zkH {fa fuel i j src body ρ} : exS fa fuel (S.forE i j src body) ρ = ((evE (prj fa) src ρ).bind fun r => if !free ρ i || !free ρ j then none else (ziP r).bind fun ds => zdq i j (za4 fa fuel body) ds ρ) := id rfl
theorem zkI {fa fuel  ρ} : exS fa fuel (S.stop) ρ = (none) := id rfl
theorem zkJ {fa fuel  ρ} : za4 fa fuel (Ss.nil) ρ = (some (.nx, ρ)) := id rfl
theorem ziS {fa fuel s ss ρ} : za4 fa fuel (Ss.cons s ss) ρ = ((exS fa fuel s ρ).bind fun x => match x.1 with
    | .nx => za4 fa fuel ss x.2
    | _ => some x) := id rfl
theorem on1 {α : Type} {P : List α → Prop} (h : ∀ a0, P [a0]) (us : List α) (hl : us.length = 1) : P us := by
  cases us with
  | nil => cases hl
  | cons a0 r0 =>
    cases r0 with
    | nil => exact h a0
    | cons _ _ => simp at hl
theorem on2 {α : Type} {P : List α → Prop} (h : ∀ a0 a1, P [a0, a1]) (us : List α) (hl : us.length = 2) : P us := by
  cases us with
  | nil => cases hl
  | cons a0 r0 =>
    cases r0 with
    | nil => cases hl
    | cons a1 r1 =>
      cases r1 with
      | nil => exact h a0 a1
      | cons _ _ => simp at hl
theorem on3 {α : Type} {P : List α → Prop} (h : ∀ a0 a1 a2, P [a0, a1, a2]) (us : List α) (hl : us.length = 3) : P us := by
  cases us with
  | nil => cases hl
  | cons a0 r0 =>
    cases r0 with
    | nil => cases hl
    | cons a1 r1 =>
      cases r1 with
      | nil => cases hl
      | cons a2 r2 =>
        cases r2 with
        | nil => exact h a0 a1 a2
        | cons _ _ => simp at hl
end L2.LW
set_option maxHeartbeats 4000000
namespace L2.LW
open PySem PySem.Spec PyProof.Rows
noncomputable def zqC (K : PySem.W.Frag) (a : Addr) (xs : List V) : Prop :=
  ∃ (o : Obj) (its : Array Value) (n : Nat), K.lookup a = some o ∧ o.cls = .type "list" ∧ o.dict = Option.none ∧ o.data = .seq its n ∧ its.size ≤ sizeLine ∧ Vals xs its.toList
noncomputable def zkK (ns : List Int) (ys : List V) : List (Key × V) := (ns.map Sum.inl).zip ys
noncomputable def zkL (ns : List (List Int)) (ys : List V) : List (List Key × V) := (ns.map fun l => l.map Sum.inl).zip ys
noncomputable def kT (l : List Int) : D := .tup (l.map D.int)
mutual
inductive Rep (K : PySem.W.Frag) (W : Addr → Prop) (H : Hp) : D → V → Prop where
  | int (i : Int) : Rep K W H (.int i) (.int i)
  | bl (b : Bool) : Rep K W H (.bl b) (.bl b)
  | non : Rep K W H .non .non
  | str (x : Str) : Rep K W H (.str x) (.str x)
  | tup {a : Addr} {xs : List V} {ds : List D} (h : H a = some (.tup xs)) (r : Reps K W H ds xs) : Rep K W H (.tup ds) (.ref a)
  | lst {a : Addr} {xs : List V} {ds : List D} (h : (¬ W a ∧ Rd H a (.lst xs)) ∨ zqC K a xs) (r : Reps K W H ds xs) : Rep K W H (.lst ds) (.ref a)
  | dK {a : Addr} {ns : List Int} {ys : List V} {vs : List D} (n : ¬ W a) (h : H a = some (.dK (zkK ns ys))) (l : ns.length = ys.length) (r : Reps K W H vs ys) : Rep K W H (.dct false (ns.map D.int) vs) (.ref a)
  | dT {a : Addr} {ns : List (List Int)} {ys : List V} {vs : List D} (n : ¬ W a) (h : H a = some (.dT (zkL ns ys))) (l : ns.length = ys.length) (r : Reps K W H vs ys) : Rep K W H (.dct true (ns.map kT) vs) (.ref a)
inductive Reps (K : PySem.W.Frag) (W : Addr → Prop) (H : Hp) : List D → List V → Prop where
  | nil : Reps K W H [] []
  | cons {d : D} {v : V} {ds : List D} {vs : List V} (h : Rep K W H d v) (t : Reps K W H ds vs) : Reps K W H (d :: ds) (v :: vs)
end
inductive ORep (K : PySem.W.Frag) (W : Addr → Prop) (H : Hp) : D → HO → Prop where
  | lst {xs : List V} {ds : List D} (r : Reps K W H ds xs) : ORep K W H (.lst ds) (.lst xs)
  | dK {ns : List Int} {ys : List V} {vs : List D} (l : ns.length = ys.length) (r : Reps K W H vs ys) : ORep K W H (.dct false (ns.map D.int) vs) (.dK (zkK ns ys))
  | dT {ns : List (List Int)} {ys : List V} {vs : List D} (l : ns.length = ys.length) (r : Reps K W H vs ys) : ORep K W H (.dct true (ns.map kT) vs) (.dT (zkL ns ys))
structure Ext (W : Addr → Prop) (H : Hp) (W' : Addr → Prop) (H' : Hp) : Prop where
  keep : ∀ a o, H a = some o → ¬ W a → H' a = some o
  tup : ∀ a xs, H a = some (.tup xs) → H' a = some (.tup xs)
  frz : ∀ a o u, H a = some (.frz o u) → H' a = some (.frz o u)
  win : ∀ a, W' a → W a ∨ H a = Option.none
theorem Ext.refl (W : Addr → Prop) (H : Hp) : Ext W H W H := ⟨fun _ _ h _ => h, fun _ _ h => h, fun _ _ _ h => h, fun _ h => .inl h⟩
theorem Ext.out {W W' : Addr → Prop} {H H' : Hp} (x : Ext W H W' H') {a : Addr} {o : HO} (h : H a = some o) (n : ¬ W a) : ¬ W' a := fun w => by
  rcases x.win a w with q | q
  · exact n q
  · rw [h] at q; cases q
theorem Ext.trans {W W1 W2 : Addr → Prop} {H H1 H2 : Hp} (x : Ext W H W1 H1) (y : Ext W1 H1 W2 H2) : Ext W H W2 H2 := by
  refine ⟨fun a o h n => y.keep a o (x.keep a o h n) (x.out h n), fun a xs h => y.tup a xs (x.tup a xs h), fun a o u h => y.frz a o u (x.frz a o u h), fun a w => ?_⟩
  rcases y.win a w with q | q
  · exact x.win a q
  · cases e : H a with
    | none => exact .inr rfl
    | some o =>
      by_cases hw : W a
      · exact .inl hw
      · rw [x.keep a o e hw] at q; cases q
theorem Ext.same {W : Addr → Prop} {H H' : Hp} (s : Same H H') : Ext W H W H' := ⟨fun a o h _ => s a o h, fun a xs h => s a _ h, fun a o u h => s a _ h, fun _ w => .inl w⟩
section
variable {K : PySem.W.Frag} {W W' : Addr → Prop} {H H' : Hp}
mutual
theorem Rep.ext (x : Ext W H W' H') : ∀ {d : D} {v : V}, Rep K W H d v → Rep K W' H' d v
  | _, _, .int i => .int i
  | _, _, .bl b => .bl b
  | _, _, .non => .non
  | _, _, .str s => .str s
  | _, _, .dK n h l r => .dK (x.out h n) (x.keep _ _ h n) l (Reps.ext x r)
  | _, _, .dT n h l r => .dT (x.out h n) (x.keep _ _ h n) l (Reps.ext x r)
  | _, _, .tup h r => .tup (x.tup _ _ h) (Reps.ext x r)
  | _, _, .lst h r => .lst (by
      rcases h with ⟨n, h | ⟨o, h⟩⟩ | h
      · exact .inl ⟨x.out h n, .inl (x.keep _ _ h n)⟩
      · exact .inl ⟨x.out h n, .inr ⟨o, x.keep _ _ h n⟩⟩
      · exact .inr h) (Reps.ext x r)
theorem Reps.ext (x : Ext W H W' H') : ∀ {ds : List D} {vs : List V}, Reps K W H ds vs → Reps K W' H' ds vs
  | _, _, .nil => .nil
  | _, _, .cons h t => .cons (Rep.ext x h) (Reps.ext x t)
end
mutual
theorem Rep.less (x : ∀ a, W' a → W a) : ∀ {d : D} {v : V}, Rep K W H d v → Rep K W' H d v
  | _, _, .int i => .int i
  | _, _, .bl b => .bl b
  | _, _, .non => .non
  | _, _, .str s => .str s
  | _, _, .dK n h l r => .dK (fun w => n (x _ w)) h l (Reps.less x r)
  | _, _, .dT n h l r => .dT (fun w => n (x _ w)) h l (Reps.less x r)
  | _, _, .tup h r => .tup h (Reps.less x r)
  | _, _, .lst h r => .lst (by
      rcases h with ⟨n, h⟩ | h
      · exact .inl ⟨fun w => n (x _ w), h⟩
      · exact .inr h) (Reps.less x r)
theorem Reps.less (x : ∀ a, W' a → W a) : ∀ {ds : List D} {vs : List V}, Reps K W H ds vs → Reps K W' H ds vs
  | _, _, .nil => .nil
  | _, _, .cons h t => .cons (Rep.less x h) (Reps.less x t)
end
mutual
theorem Rep.plain : ∀ {d : D} {v : V}, Rep K W H d v → LW.plain d = true → Rep K W' H d v
  | _, _, .int i, _ => .int i
  | _, _, .bl b, _ => .bl b
  | _, _, .non, _ => .non
  | _, _, .str s, _ => .str s
  | _, _, .tup h r, p => .tup h (Reps.plain r (by simpa [LW.plain] using p))
  | _, _, .lst h r, p => by simp [LW.plain] at p
  | _, _, .dK _ _ _ _, p => by simp [LW.plain] at p
  | _, _, .dT _ _ _ _, p => by simp [LW.plain] at p
theorem Reps.plain : ∀ {ds : List D} {vs : List V}, Reps K W H ds vs → zaT ds = true → Reps K W' H ds vs
  | _, _, .nil, _ => .nil
  | _, _, .cons h t, p => by
    simp only [zaT, Bool.and_eq_true] at p
    exact .cons (Rep.plain h p.1) (Reps.plain t p.2)
end
theorem Reps.length : ∀ {ds : List D} {vs : List V}, Reps K W H ds vs → ds.length = vs.length
  | _, _, .nil => rfl
  | _, _, .cons _ t => by simp [Reps.length t]
theorem Reps.get : ∀ {ds : List D} {vs : List V} {i : Nat} {d : D}, Reps K W H ds vs → ds[i]? = some d → ∃ v, vs[i]? = some v ∧ Rep K W H d v
  | _, _, _, _, .nil, e => by simp at e
  | _, _, 0, _, .cons h _, e => by simp at e; subst e; exact ⟨_, rfl, h⟩
  | _, _, i + 1, d, .cons _ t, e => by
    obtain ⟨v, h1, h2⟩ := Reps.get (i := i) (d := d) t (by simpa using e)
    exact ⟨v, by simpa using h1, h2⟩
theorem Reps.append : ∀ {ds es : List D} {vs us : List V}, Reps K W H ds vs → Reps K W H es us → Reps K W H (ds ++ es) (vs ++ us)
  | _, _, _, _, .nil, s => s
  | _, _, _, _, .cons h t, s => .cons h (Reps.append t s)
theorem Reps.take : ∀ {ds : List D} {vs : List V} (n : Nat), Reps K W H ds vs → Reps K W H (ds.take n) (vs.take n)
  | _, _, 0, _ => .nil
  | _, _, _ + 1, .nil => .nil
  | _, _, n + 1, .cons h t => .cons h (Reps.take n t)
theorem Reps.drop : ∀ {ds : List D} {vs : List V} (n : Nat), Reps K W H ds vs → Reps K W H (ds.drop n) (vs.drop n)
  | _, _, 0, r => r
  | _, _, _ + 1, .nil => .nil
  | _, _, n + 1, .cons _ t => Reps.drop n t
theorem Reps.ints : ∀ (ns : List Int), Reps K W H (ns.map D.int) (ns.map V.int)
  | [] => .nil
  | i :: r => .cons (.int i) (Reps.ints r)
theorem Reps.ofInts : ∀ {ds : List D} {vs : List V} {ns : List Int}, Reps K W H ds vs → ints? ds = some ns → vs = ns.map V.int
  | _, _, ns, .nil, e => by simp [ints?] at e; subst e; rfl
  | _, _, ns, .cons (d := d) h t, e => by
    cases h with
    | int i =>
      simp only [ints?, jo2] at e
      obtain ⟨ms, e1, rfl⟩ := e
      rw [Reps.ofInts t e1]; rfl
    | _ => simp [ints?] at e
theorem ORep.ext {d : D} {o : HO} (h : ORep K W H d o) (x : Ext W H W' H') : ORep K W' H' d o := by
  cases h with
  | lst r => exact .lst (r.ext x)
  | dK l r => exact .dK l (r.ext x)
  | dT l r => exact .dT l (r.ext x)
theorem ORep.less {d : D} {o : HO} (h : ORep K W H d o) (x : ∀ a, W' a → W a) : ORep K W' H d o := by
  cases h with
  | lst r => exact .lst (r.less x)
  | dK l r => exact .dK l (r.less x)
  | dT l r => exact .dT l (r.less x)
theorem ORep.plain {d : D} {o : HO} (h : ORep K W H d o) (p : zbr d = true) : ORep K W' H d o := by
  cases h with
  | lst r => exact .lst (r.plain p)
  | dK l r => exact .dK l (r.plain p)
  | dT l r => exact .dT l (r.plain p)
theorem ORep.rep {d : D} {o : HO} {a : Addr} (h : ORep K W H d o) (n : ¬ W a) (e : H a = some o) : Rep K W H d (.ref a) := by
  cases h with
  | lst r => exact .lst (.inl ⟨n, .inl e⟩) r
  | dK l r => exact .dK n e l r
  | dT l r => exact .dT n e l r
theorem ORep.kind {d : D} {o : HO} (h : ORep K W H d o) : (∀ xs, o ≠ .tup xs) ∧ (∀ b u, o ≠ .frz b u) := by
  cases h <;> exact ⟨fun _ z => (nomatch z), fun _ _ z => (nomatch z)⟩
noncomputable def add (W : Addr → Prop) (a : Addr) : Addr → Prop := fun b => W b ∨ b = a
inductive Frz (K : PySem.W.Frag) (W : Addr → Prop) (H : Hp) : SV → V → Prop where
  | val {d : D} {v : V} (h : Rep K W H d v) : Frz K W H (.val d) v
  | lis {d : D} {a : Addr} {o : HO} (h : ¬ W a) (e : H a = some o) (r : ORep K W H d o) : Frz K W H (.obj true d) (.ref a)
  | see {d : D} {a : Addr} {o : HO} (h : W a) (e : H a = some o) (r : ORep K W H d o) : Frz K W H (.obj false d) (.ref a)
inductive Res (K : PySem.W.Frag) (W : Addr → Prop) (H H' : Hp) : SV → V → Prop where
  | val {d : D} {v : V} (h : Rep K W H' d v) : Res K W H H' (.val d) v
  | new {d : D} {a : Addr} {o : HO} (h : H a = Option.none) (e : H' a = some o) (r : ORep K (add W a) H' d o) : Res K W H H' (.obj true d) (.ref a)
  | see {d : D} {a : Addr} {o : HO} (h : W a) (e : H' a = some o) (r : ORep K W H' d o) : Res K W H H' (.obj false d) (.ref a)
noncomputable def Wf (W : Addr → Prop) (H : Hp) : Prop := ∀ a, W a → H a ≠ Option.none
theorem Res.frz {r : SV} {v : V} (h : Res K W H H' r v) (wf : Wf W H) : Frz K W H' r v := by
  cases h with
  | val h => exact .val h
  | new h e r => exact .lis (fun w => wf _ w h) e (r.less fun b w => .inl w)
  | see h e r => exact .see h e r
theorem Frz.same {r : SV} {v : V} (h : Frz K W H r v) (s : Same H H') : Frz K W H' r v := by
  cases h with
  | val h => exact .val (h.ext (.same s))
  | lis h e r => exact .lis h (s _ _ e) (r.ext (.same s))
  | see h e r => exact .see h (s _ _ e) (r.ext (.same s))
noncomputable def Sees (K : PySem.W.Frag) (W : Addr → Prop) (H : Hp) (d : D) (v : V) : Prop :=
  Rep K W H d v ∨ ∃ a o, v = .ref a ∧ H a = some o ∧ ORep K W H d o
theorem Frz.sees {r : SV} {v : V} (h : Frz K W H r v) : Sees K W H (za0 r) v := by
  cases h with
  | val h => exact .inl h
  | lis h e r => exact .inr ⟨_, _, rfl, e, r⟩
  | see h e r => exact .inr ⟨_, _, rfl, e, r⟩
theorem Sees.lst {ds : List D} {v : V} (h : Sees K W H (.lst ds) v) : ∃ a xs, v = .ref a ∧ SqL K H a xs ∧ Reps K W H ds xs := by
  rcases h with h | ⟨a, o, rfl, e, r⟩
  · cases h with
    | lst h r =>
      rcases h with ⟨_, h⟩ | h
      · exact ⟨_, _, rfl, .inl h, r⟩
      · exact ⟨_, _, rfl, .inr h, r⟩
  · cases r with
    | lst r => exact ⟨_, _, rfl, .of e, r⟩
theorem Sees.tupH {ds : List D} {v : V} (h : Sees K W H (.tup ds) v) : ∃ a xs, v = .ref a ∧ H a = some (.tup xs) ∧ Reps K W H ds xs := by
  rcases h with h | ⟨a, o, rfl, e, r⟩
  · cases h with
    | tup h r => exact ⟨_, _, rfl, h, r⟩
  · cases r
theorem Sees.tup {ds : List D} {v : V} (h : Sees K W H (.tup ds) v) : ∃ a xs, v = .ref a ∧ SqT K H a xs ∧ Reps K W H ds xs := by
  obtain ⟨a, xs, e, h, r⟩ := h.tupH
  exact ⟨a, xs, e, .of h, r⟩
theorem Sees.dK {ks vs : List D} {v : V} (h : Sees K W H (.dct false ks vs) v) : ∃ a ns ys, v = .ref a ∧ ks = ns.map D.int ∧ H a = some (.dK (zkK ns ys)) ∧ ns.length = ys.length ∧ Reps K W H vs ys := by
  rcases h with h | ⟨a, o, rfl, e, r⟩
  · cases h with
    | dK n h l r => exact ⟨_, _, _, rfl, rfl, h, l, r⟩
  · cases r with
    | dK l r => exact ⟨_, _, _, rfl, rfl, e, l, r⟩
theorem Sees.dT {ks vs : List D} {v : V} (h : Sees K W H (.dct true ks vs) v) : ∃ a ns ys, v = .ref a ∧ ks = ns.map kT ∧ H a = some (.dT (zkL ns ys)) ∧ ns.length = ys.length ∧ Reps K W H vs ys := by
  rcases h with h | ⟨a, o, rfl, e, r⟩
  · cases h with
    | dT n h l r => exact ⟨_, _, _, rfl, rfl, h, l, r⟩
  · cases r with
    | dT l r => exact ⟨_, _, _, rfl, rfl, e, l, r⟩
theorem Sees.int {i : Int} {v : V} (h : Sees K W H (.int i) v) : v = .int i := by
  rcases h with h | ⟨a, o, rfl, e, r⟩
  · cases h; rfl
  · cases r
theorem Sees.bl {i : Bool} {v : V} (h : Sees K W H (.bl i) v) : v = .bl i := by
  rcases h with h | ⟨a, o, rfl, e, r⟩
  · cases h; rfl
  · cases r
theorem Sees.str {i : Str} {v : V} (h : Sees K W H (.str i) v) : v = .str i := by
  rcases h with h | ⟨a, o, rfl, e, r⟩
  · cases h; rfl
  · cases r
theorem Sees.non {v : V} (h : Sees K W H .non v) : v = .non := by
  rcases h with h | ⟨a, o, rfl, e, r⟩
  · cases h; rfl
  · cases r
theorem Frz.toD {r : SV} {v : V} {d : D} (h : Frz K W H r v) (e : LW.toD r = some d) : Rep K W H d v := by
  cases h with
  | val h => simp [LW.toD] at e; subst e; exact h
  | lis h e' r => simp [LW.toD] at e; subst e; exact r.rep h e'
  | see h e' r => simp [LW.toD] at e
noncomputable def Own (ρ : LW.Env) (σ : St) (a : Addr) : Prop := ∃ (i : Nat) (x : SV) (d : D), ρ[i]? = some (some x) ∧ x.cell = some d ∧ σ[i]? = some (some (.ref a))
structure R (K : PySem.W.Frag) (W : Addr → Prop) (ρ : LW.Env) (σ : St) (H : Hp) : Prop where
  val : ∀ (i : Nat) (d : D), ρ[i]? = some (some (.val d)) → ∃ v, σ[i]? = some (some v) ∧ Rep K W H d v
  nol : ∀ (i : Nat) (d : D), ρ[i]? ≠ some (some (.obj false d))
  own : ∀ (i : Nat) (x : SV) (d : D), ρ[i]? = some (some x) → x.cell = some d → ∃ a o, σ[i]? = some (some (.ref a)) ∧ W a ∧ H a = some o ∧ ORep K W H d o
  inj : ∀ (i j : Nat) (x y : SV) (d e : D) (a : Addr), ρ[i]? = some (some x) → ρ[j]? = some (some y) → x.cell = some d → y.cell = some e → σ[i]? = some (some (.ref a)) → σ[j]? = some (some (.ref a)) → i = j
  wf : Wf W H
  len : ρ.length = σ.length
theorem R.ownW {ρ : LW.Env} {σ : St} (r : R K W ρ σ H) {a : Addr} (o : Own ρ σ a) : W a ∧ ∃ o d, H a = some o ∧ ORep K W H d o := by
  obtain ⟨i, x, d, h1, h2, h3⟩ := o
  obtain ⟨b, o, e, w, q, z⟩ := r.own i x d h1 h2
  rw [h3] at e; cases e
  exact ⟨w, o, d, q, z⟩
theorem R.same {ρ : LW.Env} {σ : St} (r : R K W ρ σ H) (s : Same H H') : R K W ρ σ H' := by
  refine ⟨fun i d h => ?_, r.nol, fun i x d h h' => ?_, r.inj, fun a w => ?_, r.len⟩
  · obtain ⟨v, h1, h2⟩ := r.val i d h
    exact ⟨v, h1, h2.ext (.same s)⟩
  · obtain ⟨a, o, h1, h2, h3, h4⟩ := r.own i x d h h'
    exact ⟨a, o, h1, h2, s _ _ h3, h4.ext (.same s)⟩
  · cases e : H a with
    | none => exact absurd e (r.wf a w)
    | some o => rw [s a o e]; exact fun z => nomatch z
theorem R.look {ρ : LW.Env} {σ : St} (r : R K W ρ σ H) {i : Nat} {x : SV} (h : look ρ i = some x) : ∃ v, σ[i]? = some (some v) ∧ Frz K W H x v ∧ Res K W H H x v := by
  unfold LW.look at h
  split at h
  · rename_i d e
    cases h
    obtain ⟨v, h1, h2⟩ := r.val i d e
    exact ⟨v, h1, .val h2, .val h2⟩
  · rename_i o d e
    cases h
    cases o with
    | false => exact absurd e (r.nol i d)
    | true =>
      obtain ⟨a, o, h1, h2, h3, h4⟩ := r.own i _ d e rfl
      exact ⟨_, h1, .see h2 h3 h4, .see h2 h3 h4⟩
  · rename_i d e
    cases h
    obtain ⟨a, o, h1, h2, h3, h4⟩ := r.own i _ d e rfl
    exact ⟨_, h1, .see h2 h3 h4, .see h2 h3 h4⟩
  · cases h
noncomputable def zeG (ρ : LW.Env) (i : Nat) : Prop := ∃ d, ρ[i]? = some (some (.io d))
theorem zdX {ρ : LW.Env} {i : Nat} (h : LW.free ρ i = true) : ¬ zeG ρ i := fun zz0 => by
  obtain ⟨d, e⟩ := zz0
  unfold LW.free at h; rw [e] at h; cases h
structure SPost (K : PySem.W.Frag) (W : Addr → Prop) (ρ : LW.Env) (σ : St) (H : Hp) (W' : Addr → Prop) (ρ' : LW.Env) (σ' : St) (H' : Hp) : Prop where
  r : R K W' ρ' σ' H'
  keep : ∀ a o, H a = some o → ¬ Own ρ σ a → H' a = some o
  win : ∀ a, W' a → W a ∨ H a = Option.none
  wout : ∀ a, W a → ¬ Own ρ σ a → W' a ∧ ¬ Own ρ' σ' a
  io : ∀ i, (zeG ρ' i ↔ zeG ρ i) ∧ (zeG ρ i → σ'[i]? = σ[i]?)
theorem SPost.trans {W1 W2 : Addr → Prop} {ρ ρ1 ρ2 : LW.Env} {σ σ1 σ2 : St} {H1 H2 : Hp} (x : SPost K W ρ σ H W1 ρ1 σ1 H1) (y : SPost K W1 ρ1 σ1 H1 W2 ρ2 σ2 H2) (r0 : R K W ρ σ H) : SPost K W ρ σ H W2 ρ2 σ2 H2 := by
  have no1 : ∀ a o, H a = some o → ¬ Own ρ σ a → ¬ Own ρ1 σ1 a := fun a o h n z => by
    rcases x.win a (x.r.ownW z).1 with w | w
    · exact (x.wout a w n).2 z
    · rw [h] at w; cases w
  refine ⟨y.r, fun a o h n => y.keep a o (x.keep a o h n) (no1 a o h n), fun a w => ?_, fun a w n => ?_, fun i => ⟨(y.io i).1.trans (x.io i).1, fun z => ((y.io i).2 ((x.io i).1.mpr z)).trans ((x.io i).2 z)⟩⟩
  · rcases y.win a w with q | q
    · exact x.win a q
    · cases e : H a with
      | none => exact .inr rfl
      | some o =>
        by_cases n : Own ρ σ a
        · exact .inl (r0.ownW n).1
        · rw [x.keep a o e n] at q; cases q
  · obtain ⟨w1, n1⟩ := x.wout a w n
    exact y.wout a w1 n1
theorem SPost.ext {W1 : Addr → Prop} {ρ ρ1 : LW.Env} {σ σ1 : St} {H1 : Hp} (x : SPost K W ρ σ H W1 ρ1 σ1 H1) (r0 : R K W ρ σ H) : Ext W H W1 H1 := by
  refine ⟨fun a o h n => x.keep a o h fun z => n (r0.ownW z).1, fun a xs h => x.keep a _ h fun z => ?_, fun a o u h => x.keep a _ h fun z => ?_, x.win⟩
  · obtain ⟨_, o, d, e, q⟩ := r0.ownW z
    rw [h] at e; cases e; exact q.kind.1 xs rfl
  · obtain ⟨_, o, d, e, q⟩ := r0.ownW z
    rw [h] at e; cases e; exact q.kind.2 _ _ rfl
theorem SPost.same {ρ : LW.Env} {σ : St} (r0 : R K W ρ σ H) (s : Same H H') : SPost K W ρ σ H W ρ σ H' :=
  ⟨r0.same s, fun a o h _ => s a o h, fun a w => .inl w, fun a w n => ⟨w, n⟩, fun _ => ⟨.rfl, fun _ => rfl⟩⟩
end
noncomputable def zsO (ρ : LW.Env) (σ : St) (a : Addr) : Prop := ∃ i, zeG ρ i ∧ σ[i]? = some (some (.ref a))
inductive Ret (K : PySem.W.Frag) (W : Addr → Prop) (ρ : LW.Env) (σ : St) (W' : Addr → Prop) (H' : Hp) : SV → V → Prop where
  | val {d : D} {v : V} (h : Rep K W' H' d v) : Ret K W ρ σ W' H' (.val d) v
  | new {d : D} {a : Addr} {o : HO} (h : W' a) (n : ¬ (W a ∧ ¬ Own ρ σ a)) (n' : ¬ zsO ρ σ a) (e : H' a = some o) (r : ORep K W' H' d o) : Ret K W ρ σ W' H' (.obj true d) (.ref a)
noncomputable def tE (K : PySem.W.Frag) (fn : Nat → List D → Option SV) (c : E) : TE := fun σ H Q => ∃ W ρ r, R K W ρ σ H ∧ evE fn c ρ = some r ∧ ∀ v H', Same H H' → Res K W H H' r v → Q v H'
noncomputable def tV (K : PySem.W.Frag) (fn : Nat → List D → Option SV) (c : E) : TE := fun σ H Q => ∃ W ρ r, R K W ρ σ H ∧ evE fn c ρ = some r ∧ ∀ v H', Same H H' → Frz K W H' r v → Q v H'
noncomputable def tVs (K : PySem.W.Frag) (fn : Nat → List D → Option SV) (cs : Es) : TA := fun σ H Q => ∃ W ρ rs, R K W ρ σ H ∧ zbp fn cs ρ = some rs ∧ ∀ vs H', Same H H' → Paired (Frz K W H') rs vs → Q vs H'
noncomputable def tT (K : PySem.W.Frag) (fn : Nat → List D → Option SV) (c : E) : TT := fun σ H Q => ∃ W ρ b, R K W ρ σ H ∧ evT fn c ρ = some b ∧ ∀ H', Same H H' → Q b H'
noncomputable def FlOk (K : PySem.W.Frag) (W : Addr → Prop) (ρ : LW.Env) (σ : St) (W' : Addr → Prop) (ρ' : LW.Env) (σ' : St) (H' : Hp) (D : Ends) : Fl → Prop
  | .nx => D.nx σ' H'
  | .br => D.bk σ' H'
  | .ct => D.ct σ' H'
  | .rt r => ∀ v, Ret K W ρ σ W' H' r v → D.rt v H'
noncomputable def tSs (K : PySem.W.Frag) (ex : LW.Env → Option (Fl × LW.Env)) : TS := fun D σ H => ∃ W ρ x, R K W ρ σ H ∧ ex ρ = some x ∧ ∀ W' σ' H', SPost K W ρ σ H W' x.2 σ' H' → FlOk K W ρ σ W' x.2 σ' H' D x.1
theorem _root_.L2.PE.imp {X : Cx} {e : Expr} {t t' : TE} (h : PE X e t) (i : ∀ σ H Q, t' σ H Q → t σ H Q) : PE X e t' := fun pins s σ H Q I q => h pins s σ H Q I (i σ H Q q)
theorem _root_.L2.PT.imp {X : Cx} {e : Expr} {t t' : TT} (h : PT X e t) (i : ∀ σ H Q, t' σ H Q → t σ H Q) : PT X e t' := fun pins s σ H Q I q => h pins s σ H Q I (i σ H Q q)
theorem _root_.L2.PW.imp {X : Cx} {e : Expr} {t t' : TT} (h : PW X e t) (i : ∀ σ H Q, t' σ H Q → t σ H Q) : PW X e t' := fun wh pins s σ H Q I q => h wh pins s σ H Q I (i σ H Q q)
theorem _root_.L2.PA.imp {X : Cx} {e : List Expr} {t t' : TA} (h : PA X e t) (i : ∀ σ H Q, t' σ H Q → t σ H Q) : PA X e t' := fun pos pins s σ H Q I q => h pos pins s σ H Q I (i σ H Q q)
theorem _root_.L2.PS.imp {X : Cx} {e : Stmt} {t t' : TS} (h : PS X e t) (i : ∀ D σ H, t' D σ H → t D σ H) : PS X e t' := fun pins s σ H D I q => h pins s σ H D I (i D σ H q)
theorem _root_.L2.PSs.imp {X : Cx} {e : List Stmt} {t t' : TS} (h : PSs X e t) (i : ∀ D σ H, t' D σ H → t D σ H) : PSs X e t' := fun pins s σ H D I q => h pins s σ H D I (i D σ H q)
end L2.LW
set_option maxHeartbeats 4000000
namespace L2.LW
open PySem PySem.Spec PyProof.Rows
noncomputable def VR (K : PySem.W.Frag) (f : List D → Option SV) (vs : List V) (H : Hp) (Q : VK) : Prop :=
  ∃ W ds r, Wf W H ∧ Paired (Sees K W H) ds vs ∧ f ds = some r ∧ ∀ v H', Same H H' → Res K W H H' r v → Q v H'
noncomputable def VR2 (K : PySem.W.Frag) (f : List D → Option SV) : R2 := fun x y H Q => VR K f [x, y] H Q
noncomputable def VR1 (K : PySem.W.Frag) (f : List D → Option SV) : V → Hp → VK → Prop := fun x H Q => VR K f [x] H Q
theorem pr1 {α β : Type} {F : α → β → Prop} {ds : List α} {x : β} (h : Paired F ds [x]) : ∃ d, ds = [d] ∧ F d x := by
  cases h with
  | cons h t => cases t; exact ⟨_, rfl, h⟩
theorem pr2 {α β : Type} {F : α → β → Prop} {ds : List α} {x y : β} (h : Paired F ds [x, y]) : ∃ d e, ds = [d, e] ∧ F d x ∧ F e y := by
  cases h with
  | cons h t =>
    obtain ⟨e, rfl, h2⟩ := pr1 t
    exact ⟨_, e, rfl, h, h2⟩
mutual
noncomputable def zbb : D → PyData
  | .int i => .int i
  | .bl b => .bool b
  | .non => .none
  | .str x => .str x
  | .tup l => .tuple (zbf l)
  | .lst l => .list (zbf l)
  | .dct _ _ _ => .dict []
noncomputable def zbf : List D → List PyData
  | [] => []
  | x :: xs => zbb x :: zbf xs
end
mutual
theorem zdY : ∀ d e : D, PyData.eqv (zbb d) (zbb e) = eqD d e
  | .int a, e => by cases e <;> simp [zbb, PyData.eqv, eqD]
  | .bl a, e => by cases e <;> simp [zbb, PyData.eqv, eqD]
  | .non, e => by cases e <;> simp [zbb, PyData.eqv, eqD]
  | .str a, e => by cases e <;> simp [zbb, PyData.eqv, eqD]
  | .tup l, e => by
    cases e with
    | tup m => simp only [zbb, PyData.eqv, eqD]; exact zcf l m
    | _ => simp [zbb, PyData.eqv, eqD]
  | .lst l, e => by
    cases e with
    | lst m => simp only [zbb, PyData.eqv, eqD]; exact zcf l m
    | _ => simp [zbb, PyData.eqv, eqD]
  | .dct t a b, e => by cases e <;> simp [zbb, PyData.eqv, eqD]
theorem zcf : ∀ ds es : List D, PyData.eqvAll (zbf ds) (zbf es) = zdW ds es
  | [], [] => by simp [zbf, PyData.eqvAll, zdW]
  | [], _ :: _ => by simp [zbf, PyData.eqvAll, zdW]
  | _ :: _, [] => by simp [zbf, PyData.eqvAll, zdW]
  | x :: xs, y :: ys => by simp only [zbf, PyData.eqvAll, zdW]; rw [zdY x y, zcf xs ys]
end
theorem zbP {n : Nat} (ih : ∀ d, za2 n d = true → (zbb d).canLay0 = true ∧ (zbb d).depth ≤ n) : ∀ l : List D, l.all (za2 n) = true → PyData.canLayAll0 (zbf l) = true ∧ PyData.depthAll (zbf l) ≤ n
  | [], _ => by simp [zbf, PyData.canLayAll0, PyData.depthAll]
  | x :: xs, h => by
    simp only [List.all_cons, Bool.and_eq_true] at h
    obtain ⟨h1, h2⟩ := ih x h.1
    obtain ⟨h3, h4⟩ := zbP ih xs h.2
    refine ⟨by simp [zbf, PyData.canLayAll0, h1, h3], ?_⟩
    simp only [zbf, PyData.depthAll]
    omega
theorem zaM : ∀ (n : Nat) (d : D), za2 n d = true → (zbb d).canLay0 = true ∧ (zbb d).depth ≤ n
  | _, .int _, _ => by simp [zbb, PyData.canLay0, PyData.depth]
  | _, .bl _, _ => by simp [zbb, PyData.canLay0, PyData.depth]
  | _, .non, _ => by simp [zbb, PyData.canLay0, PyData.depth]
  | _, .str _, h => by simp [za2] at h
  | 0, .dct _ _ _, h => by simp [za2] at h
  | _ + 1, .dct _ _ _, h => by simp [za2] at h
  | 0, .tup _, h => by simp [za2] at h
  | 0, .lst _, h => by simp [za2] at h
  | n + 1, .tup l, h => by
    obtain ⟨h1, h2⟩ := zbP (zaM n) l (by simpa [za2] using h)
    exact ⟨by simpa [zbb, PyData.canLay0] using h1, by simp only [zbb, PyData.depth]; omega⟩
  | n + 1, .lst l, h => by
    obtain ⟨h1, h2⟩ := zbP (zaM n) l (by simpa [za2] using h)
    exact ⟨by simpa [zbb, PyData.canLay0] using h1, by simp only [zbb, PyData.depth]; omega⟩
theorem zbs (d : D) : ∀ l : List D, ((zbf l).any fun y => PyData.eqv y (zbb d)) = l.any fun y => eqD y d
  | [] => by simp [zbf]
  | x :: xs => by simp only [zbf, List.any_cons]; rw [zdY x d, zbs d xs]
section
variable {X : Cx} {pins : List (Addr × Obj)} {σ : St} {H : Hp} {s : Shared} {W : Addr → Prop}
mutual
theorem Rep.reads (I : Inv X pins σ H s) : ∀ {n : Nat} {d : D} {x : V} {v : Value}, za2 n d = true → Rep X.K W H d x → RelV x v → ∃ as, Reads s.heap v (zbb d) as
  | _, _, _, _, _, .int i, r => by obtain ⟨t, rfl⟩ := r; exact ⟨_, .int _ _⟩
  | _, _, _, _, _, .bl b, r => by cases r; exact ⟨_, .bool _⟩
  | _, _, _, _, _, .non, r => by cases r; exact ⟨_, .none⟩
  | _, _, _, _, _, .str x, r => by obtain ⟨t, rfl⟩ := r; exact ⟨_, .str _ _⟩
  | 0, _, _, _, n, .tup h rs, r => by simp [za2] at n
  | 0, _, _, _, n, .lst h rs, r => by simp [za2] at n
  | _ + 1, _, _, _, n, .tup h rs, r => by
    cases r
    obtain ⟨its, rv, ⟨o, ho, hc, m, hd⟩, hz⟩ := I.tuple (.of h)
    obtain ⟨as, q⟩ := Reps.reads I (by simpa [za2] using n) rs rv
    exact ⟨as, by simp only [zbb]; exact .tuple ho hc hd (by simpa using q)⟩
  | _ + 1, _, _, _, n, .lst h rs, r => by
    cases r
    obtain ⟨its, rv, ⟨o, m, ho, hc, _, hd⟩, hz⟩ := I.list (show SqL X.K H _ _ from h.elim (fun z => .inl z.2) fun z => .inr z)
    obtain ⟨as, q⟩ := Reps.reads I (by simpa [za2] using n) rs rv
    exact ⟨_, by simp only [zbb]; exact .list ho hc hd (by simpa using q)⟩
  | 0, _, _, _, n, .dK _ _ _ _, r => by simp [za2] at n
  | 0, _, _, _, n, .dT _ _ _ _, r => by simp [za2] at n
  | _ + 1, _, _, _, n, .dK _ _ _ _, r => by simp [za2] at n
  | _ + 1, _, _, _, n, .dT _ _ _ _, r => by simp [za2] at n
theorem Reps.reads (I : Inv X pins σ H s) : ∀ {n : Nat} {ds : List D} {xs : List V} {vs : List Value}, ds.all (za2 n) = true → Reps X.K W H ds xs → Vals xs vs → ∃ as, ReadsAll s.heap vs (zbf ds) as
  | _, _, _, _, _, .nil, r => by cases r; exact ⟨_, by simp only [zbf]; exact .nil⟩
  | _, _, _, _, n, .cons h t, r => by
    cases r with
    | cons r1 r2 =>
      simp only [List.all_cons, Bool.and_eq_true] at n
      obtain ⟨as, q1⟩ := Rep.reads I n.1 h r1
      obtain ⟨bs, q2⟩ := Reps.reads I n.2 t r2
      exact ⟨_, by simp only [zbf]; exact .cons q1 q2⟩
end
theorem Sees.reads (I : Inv X pins σ H s) {n : Nat} {d : D} {x : V} {v : Value} (hn : za2 n d = true) (h : Sees X.K W H d x) (r : RelV x v) : ∃ as, Reads s.heap v (zbb d) as := by
  rcases h with h | ⟨a, o, rfl, e, rs⟩
  · exact h.reads I hn r
  · cases r
    cases rs with
    | lst rs =>
      obtain ⟨its, rv, ⟨o, m, ho, hc, _, hd⟩, hz⟩ := I.list (show SqL X.K H _ _ from .of e)
      cases n with
      | zero => simp [za2] at hn
      | succ n =>
        obtain ⟨as, q⟩ := rs.reads I (n := n) (by simpa [za2] using hn) rv
        exact ⟨_, by simp only [zbb]; exact .list ho hc hd (by simpa using q)⟩
    | dK l r => cases n <;> simp [za2] at hn
    | dT l r => cases n <;> simp [za2] at hn
theorem Sees.readsL (I : Inv X pins σ H s) {n : Nat} {l : List D} {x : V} {v : Value} (hn : l.all (za2 n) = true) (h : Sees X.K W H (.lst l) x) (r : RelV x v) : ∃ as, Reads s.heap v (zbb (.lst l)) as :=
  h.reads I (n := n + 1) (by simpa [za2] using hn) r
theorem Sees.readsT (I : Inv X pins σ H s) {n : Nat} {l : List D} {x : V} {v : Value} (hn : l.all (za2 n) = true) (h : Sees X.K W H (.tup l) x) (r : RelV x v) : ∃ as, Reads s.heap v (zbb (.tup l)) as :=
  h.reads I (n := n + 1) (by simpa [za2] using hn) r
end
theorem zaN {H : Hp} {p : Addr} (h : H p = Option.none) (o : HO) : Same H (upd H p o) := fun b u q => by rw [zau (za5 q h)]; exact q
theorem zfD {K : PySem.W.Frag} {W : Addr → Prop} {H : Hp} {p : Addr} {ds : List D} {xs : List V} (hp : H p = Option.none) (r : Reps K W H ds xs) : Res K W H (upd H p (.lst xs)) (.lis true ds) (.ref p) := by
  refine .new hp zaL (.lst (r.ext ⟨fun a o h _ => zaN hp _ a o h, fun a xs h => zaN hp _ a _ h, fun a o u h => zaN hp _ a _ h, fun a w => ?_⟩))
  rcases w with w | rfl
  · exact .inl w
  · exact .inr hp
theorem zhD {K : PySem.W.Frag} {W : Addr → Prop} {H : Hp} {p : Addr} {ds : List D} {xs : List V} (hp : H p = Option.none) (r : Reps K W H ds xs) : Res K W H (upd H p (.tup xs)) (.val (.tup ds)) (.ref p) :=
  .val (.tup zaL (r.ext (.same (zaN hp _))))
section
variable {X : Cx}
theorem zfE : line = sizeLine := by rw [sizeLine_eq]; rfl
theorem zdZ : ∀ {l : List D} {ns : List Int}, ints? l = some ns → l = ns.map D.int
  | [], ns, e => by simp [ints?] at e; subst e; rfl
  | d :: r, ns, e => by
    cases d with
    | int i =>
      simp only [ints?, jo2] at e
      obtain ⟨ms, e1, rfl⟩ := e
      rw [zdZ e1]; rfl
    | _ => simp [ints?] at e
theorem zfF (ns : List Int) : (ns.map Sum.inl).map kV = ns.map V.int := by
  rw [List.map_map]; rfl
theorem zcW : ∀ (a b : List Int), zdW (a.map D.int) (b.map D.int) = decide (a = b)
  | [], [] => by simp [zdW]
  | [], _ :: _ => by simp [zdW]
  | _ :: _, [] => by simp [zdW]
  | x :: xs, y :: ys => by
    rw [Bool.eq_iff_iff]
    simp [zdW, eqD, zcW xs ys]
theorem ziT {a b : List Int} (h : (a.map Sum.inl : List Key) = b.map Sum.inl) : a = b := (List.map_inj_right (fun _ _ z => Sum.inl.inj z)).mp h
theorem zf8 (k d : D) (ks : List D) : kix (d :: ks) k = if eqD d k then some 0 else (kix ks k).map (· + 1) := by
  unfold kix; rw [List.findIdx?_cons]
theorem zhE : ∀ {ns : List Int} {ys : List V}, ns.length = ys.length → ∀ i : Int, zdB (zkK ns ys) (.inl i) = (kix (ns.map D.int) (.int i)).bind fun j => ys[j]?
  | [], [], _, i => rfl
  | n :: ns, y :: ys, h, i => by
    have ih := zhE (ns := ns) (ys := ys) (by simpa using h) i
    show zdB ((Sum.inl n, y) :: zkK ns ys) (.inl i) = _
    rw [List.map_cons, zf8]
    by_cases e : n = i
    · rw [zb0 (by simp [e])]; simp [eqD, e]
    · rw [zb1 (by simp [e]), ih]
      have : eqD (.int n) (.int i) = false := by simp [eqD, e]
      rw [this]
      cases kix (ns.map D.int) (.int i) <;> simp
theorem zhF : ∀ {ns : List (List Int)} {ys : List V}, ns.length = ys.length → ∀ i : List Int, zdB (zkL ns ys) (i.map Sum.inl) = (kix (ns.map kT) (kT i)).bind fun j => ys[j]?
  | [], [], _, i => rfl
  | n :: ns, y :: ys, h, i => by
    have ih := zhF (ns := ns) (ys := ys) (by simpa using h) i
    show zdB ((n.map Sum.inl, y) :: zkL ns ys) (i.map Sum.inl) = _
    rw [List.map_cons, zf8]
    by_cases e : n = i
    · rw [zb0 (by simp [e])]
      have : eqD (kT n) (kT i) = true := by simp [kT, eqD, zcW, e]
      rw [this]; rfl
    · rw [zb1 (fun z => e (ziT z)), ih]
      have : eqD (kT n) (kT i) = false := by simp [kT, eqD, zcW, e]
      rw [this]
      cases kix (ns.map kT) (kT i) <;> simp
theorem zj4 {ks : List D} {k : D} {j : Nat} (h : kix ks k = some j) : j < ks.length := by
  unfold kix at h
  obtain ⟨h1, _⟩ := List.findIdx?_eq_some_iff_getElem.mp h
  exact h1
theorem zhG {ns : List Int} {ys : List V} (h : ns.length = ys.length) {i : Int} : (zdB (zkK ns ys) (.inl i)).isSome = (kix (ns.map D.int) (.int i)).isSome := by
  rw [zhE h]
  cases e : kix (ns.map D.int) (.int i) with
  | none => rfl
  | some j => have := zj4 e; simp at this; simp; omega
theorem zhH {ns : List (List Int)} {ys : List V} (h : ns.length = ys.length) {i : List Int} : (zdB (zkL ns ys) (i.map Sum.inl)).isSome = (kix (ns.map kT) (kT i)).isSome := by
  rw [zhF h]
  cases e : kix (ns.map kT) (kT i) with
  | none => rfl
  | some j => have := zj4 e; simp at this; simp; omega
theorem zqD {K : PySem.W.Frag} {W : Addr → Prop} {H : Hp} {ns : List Int} {ys : List V} {vs : List D} {i : Int} {d : D} (h : ns.length = ys.length) (r : Reps K W H vs ys) (e : zmq (ns.map D.int) vs (.int i) = some d) : ∃ y, zdB (zkK ns ys) (.inl i) = some y ∧ Rep K W H d y := by
  unfold zmq at e
  rw [jo1] at e
  obtain ⟨j, e1, e2⟩ := e
  obtain ⟨y, e3, e4⟩ := r.get e2
  exact ⟨y, by rw [zhE h, e1]; exact e3, e4⟩
theorem zqE {K : PySem.W.Frag} {W : Addr → Prop} {H : Hp} {ns : List (List Int)} {ys : List V} {vs : List D} {i : List Int} {d : D} (h : ns.length = ys.length) (r : Reps K W H vs ys) (e : zmq (ns.map kT) vs (kT i) = some d) : ∃ y, zdB (zkL ns ys) (i.map Sum.inl) = some y ∧ Rep K W H d y := by
  unfold zmq at e
  rw [jo1] at e
  obtain ⟨j, e1, e2⟩ := e
  obtain ⟨y, e3, e4⟩ := r.get e2
  exact ⟨y, by rw [zhF h, e1]; exact e3, e4⟩
theorem zhI : OpR X (binaryOp .Add) (VR2 X.K (zai .add)) := by
  rintro pins s σ H x y v u Q I rx ry ⟨W, ds, r, wf, hs, hf, q⟩
  obtain ⟨d, e, rfl, h1, h2⟩ := pr2 hs
  replace hf : zqi [d, e] = some r := hf
  unfold zqi at hf
  split at hf
  · rename_i a b z; cases z; cases hf
    cases h1.int; cases h2.int
    exact zma pins s σ H _ _ v u Q I rx ry ⟨_, _, rfl, rfl, q _ H (.refl H) (.val (.int _))⟩
  · rename_i a b z; cases z
    split at hf
    · rename_i hl
      cases hf
      obtain ⟨p, xs, rfl, hp, rp⟩ := h1.lst
      obtain ⟨p2, xs2, rfl, hp2, rp2⟩ := h2.lst
      cases rx; cases ry
      obtain ⟨its, rv, ⟨⟨c1, d1, da1, sl1⟩, n, ho, hc, hdd, hd⟩, hz⟩ := I.list hp
      obtain ⟨its2, rv2, ⟨⟨c2, d2, da2, sl2⟩, n2, ho2, hc2, hdd2, hd2⟩, hz2⟩ := I.list hp2
      simp only at hc hd hdd hc2 hd2 hdd2
      subst hc hd hdd hc2 hd2 hdd2
      have l1 := rv.length
      have l2 := rv2.length
      have l3 := rp.length
      have l4 := rp2.length
      have le := zfE
      refine concat_meets ⟨_, ho, rfl⟩ ⟨_, ho2, rfl⟩ noFill_list_add seq_list_add PySem.F.slot_list_add PySem.F.entry_list_add (PySem.F.args_list_add_2 _ _) (list_addW p p2 its.toArray its2.toArray n n2 Option.none Option.none sl1 sl2 (by simp; omega)) ⟨ho, ho2, ?_⟩
      have e : its.toArray ++ its2.toArray = (its ++ its2).toArray := by simp
      rw [e]
      exact ⟨.ref _, _, I.lnew (t' := s.toks) (rv.append rv2) (by rw [List.length_append]; omega), rfl, q _ _ (zaN I.fresh _) (zfD I.fresh (rp.append rp2))⟩
    · cases hf
  · cases hf
theorem zmL : OpR X (binaryOp .Sub) (VR2 X.K (zai .sub)) := by
  rintro pins s σ H x y v u Q I rx ry ⟨W, ds, r, wf, hs, hf, q⟩
  obtain ⟨d, e, rfl, h1, h2⟩ := pr2 hs
  replace hf : zqj [d, e] = some r := hf
  unfold zqj at hf
  split at hf
  · rename_i a b z; cases z; cases hf
    cases h1.int; cases h2.int
    exact zmb pins s σ H _ _ v u Q I rx ry ⟨_, _, rfl, rfl, q _ H (.refl H) (.val (.int _))⟩
  · cases hf
theorem zmM : OpR X (binaryOp .Mod) (VR2 X.K (zai .mod)) := by
  rintro pins s σ H x y v u Q I rx ry ⟨W, ds, r, wf, hs, hf, q⟩
  obtain ⟨d, e, rfl, h1, h2⟩ := pr2 hs
  replace hf : zos [d, e] = some r := hf
  unfold zos at hf
  split at hf
  · rename_i a b z; cases z
    split at hf
    · rename_i hc
      cases hf
      cases h1.int; cases h2.int
      exact zmc pins s σ H _ _ v u Q I rx ry ⟨_, _, rfl, rfl, hc, q _ H (.refl H) (.val (.int _))⟩
    · cases hf
  · cases hf
theorem zj5 : UnR X (unaryOp .USub) (VR1 X.K (zai .neg)) := by
  rintro pins s σ H x v Q I rx ⟨W, ds, r, wf, hs, hf, q⟩
  obtain ⟨d, rfl, h1⟩ := pr1 hs
  replace hf : zql [d] = some r := hf
  unfold zql at hf
  split at hf
  · rename_i a z; cases z; cases hf
    cases h1.int
    exact zmd pins s σ H _ v Q I rx ⟨_, rfl, q _ H (.refl H) (.val (.int _))⟩
  · cases hf
theorem zqF {A : Around} (hu : A.units + 64 < cLine) {d e : D} (h : za2 8 d = true) : A.units + min (zbb d).depth (zbb e).depth < cLine := by
  have h1 := (zaM 8 d h).2
  have h2 : min (zbb d).depth (zbb e).depth ≤ (zbb d).depth := Nat.min_le_left _ _
  omega
theorem zeH (hu : X.A.units + 64 < cLine) : OpR X (compareOp .Eq) (VR2 X.K (zai .eq)) := by
  rintro pins s σ H x y v u Q I rx ry ⟨W, ds, r, wf, hs, hf, q⟩
  obtain ⟨d, e, rfl, h1, h2⟩ := pr2 hs
  replace hf : pEq [d, e] = some r := hf
  simp only [pEq] at hf
  split at hf
  · rename_i hc
    rw [Bool.and_eq_true] at hc
    cases hf
    obtain ⟨as, ra⟩ := h1.reads I hc.1 rx
    obtain ⟨bs, rb⟩ := h2.reads I hc.2 ry
    refine SeqAt.compareEq_reads ra rb (zaM 8 d hc.1).1 (zaM 8 e hc.2).1 (zqF hu hc.1) ?_
    rw [zdY]
    exact ⟨.bl _, H, I, rfl, q _ H (.refl H) (.val (.bl _))⟩
  · cases hf
theorem ziU {A : Around} (hu : A.units + 64 < cLine) {d : D} {l : List PyData} (h : za2 8 d = true) : A.units + 1 + min (PyData.depthAll l) (zbb d).depth < cLine := by
  have h1 := (zaM 8 d h).2
  have h2 : min (PyData.depthAll l) (zbb d).depth ≤ (zbb d).depth := Nat.min_le_right _ _
  omega
theorem zqG (hu : X.A.units + 64 < cLine) : OpR X (compareOp .In) (VR2 X.K (zai .inn)) := by
  rintro pins s σ H x y v u Q I rx ry ⟨W, ds, r, wf, hs, hf, q⟩
  obtain ⟨d, e, rfl, h1, h2⟩ := pr2 hs
  replace hf : pIn [d, e] = some r := hf
  unfold pIn at hf
  split at hf
  · rename_i x t ks vs z; cases z
    split at hf
    · rename_i hk
      cases hf
      cases t with
      | false =>
        cases d with
        | int i =>
          cases h1.int
          obtain ⟨a, ns, ys, rfl, rfl, hH, hl, _⟩ := h2.dK
          cases ry
          exact zrX (by omega) I (DGet.k (k := .inl i) hH) rx fun s' I' => ⟨.bl _, H, I', rfl, q _ H (.refl H) (.val (by rw [zhG hl]; exact .bl _))⟩
        | _ => simp [zbg] at hk
      | true =>
        cases d with
        | tup l =>
          obtain ⟨ms, hms⟩ : ∃ ms, ints? l = some ms := by simp only [zbg, Option.isSome_iff_exists] at hk; exact hk
          obtain ⟨b, xs, rfl, hb, rp⟩ := h1.tupH
          obtain ⟨a, ns, ys, rfl, rfl, hH, hl, _⟩ := h2.dT
          cases ry
          have e1 := rp.ofInts hms
          have e2 := zdZ hms
          subst e1 e2
          exact zrX (by omega) I (DGet.t (k := ms.map Sum.inl) hH (by rw [hb, zfF])) rx fun s' I' => ⟨.bl _, H, I', rfl, q _ H (.refl H) (.val (by rw [zhH hl]; exact .bl _))⟩
        | _ => simp [zbg] at hk
    · cases hf
  · rename_i d l z; cases z
    split at hf
    · rename_i hc
      rw [Bool.and_eq_true] at hc
      cases hf
      obtain ⟨as, ra⟩ := h1.reads I hc.1 rx
      obtain ⟨bs, rb⟩ := h2.readsT I hc.2 ry
      simp only [zbb] at rb
      refine SeqAt.in_tuple_reads rb ra (zbP (zaM 8) l hc.2).1 (zaM 8 d hc.1).1 (ziU hu hc.1) ?_
      rw [zbs]
      exact ⟨.bl _, H, I, rfl, q _ H (.refl H) (.val (.bl _))⟩
    · cases hf
  · rename_i d l z; cases z
    split at hf
    · rename_i hc
      rw [Bool.and_eq_true] at hc
      cases hf
      obtain ⟨as, ra⟩ := h1.reads I hc.1 rx
      obtain ⟨bs, rb⟩ := h2.readsL I hc.2 ry
      simp only [zbb] at rb
      refine SeqAt.in_list_reads rb ra (zbP (zaM 8) l hc.2).1 (zaM 8 d hc.1).1 (ziU hu hc.1) ?_
      rw [zbs]
      exact ⟨.bl _, H, I, rfl, q _ H (.refl H) (.val (.bl _))⟩
    · cases hf
  · cases hf
theorem zmN (hu : X.A.units + 64 < cLine) : OpR X (compareOp .NotIn) (VR2 X.K (zai .nin)) := by
  rintro pins s σ H x y v u Q I rx ry ⟨W, ds, r, wf, hs, hf, q⟩
  obtain ⟨d, e, rfl, h1, h2⟩ := pr2 hs
  replace hf : zot [d, e] = some r := hf
  unfold zot at hf
  split at hf
  · rename_i x t ks vs z; cases z
    split at hf
    · rename_i hk
      cases hf
      cases t with
      | false =>
        cases d with
        | int i =>
          cases h1.int
          obtain ⟨a, ns, ys, rfl, rfl, hH, hl, _⟩ := h2.dK
          cases ry
          exact zhr (by omega) I (DGet.k (k := .inl i) hH) rx fun s' I' => ⟨.bl _, H, I', rfl, q _ H (.refl H) (.val (by rw [zhG hl]; exact .bl _))⟩
        | _ => simp [zbg] at hk
      | true =>
        cases d with
        | tup l =>
          obtain ⟨ms, hms⟩ : ∃ ms, ints? l = some ms := by simp only [zbg, Option.isSome_iff_exists] at hk; exact hk
          obtain ⟨b, xs, rfl, hb, rp⟩ := h1.tupH
          obtain ⟨a, ns, ys, rfl, rfl, hH, hl, _⟩ := h2.dT
          cases ry
          have e1 := rp.ofInts hms
          have e2 := zdZ hms
          subst e1 e2
          exact zhr (by omega) I (DGet.t (k := ms.map Sum.inl) hH (by rw [hb, zfF])) rx fun s' I' => ⟨.bl _, H, I', rfl, q _ H (.refl H) (.val (by rw [zhH hl]; exact .bl _))⟩
        | _ => simp [zbg] at hk
    · cases hf
  · rename_i d l z; cases z
    split at hf
    · rename_i hc
      rw [Bool.and_eq_true] at hc
      cases hf
      obtain ⟨as, ra⟩ := h1.reads I hc.1 rx
      obtain ⟨bs, rb⟩ := h2.readsT I hc.2 ry
      simp only [zbb] at rb
      refine SeqAt.notIn_tuple_reads rb ra (zbP (zaM 8) l hc.2).1 (zaM 8 d hc.1).1 (ziU hu hc.1) ?_
      rw [zbs]
      exact ⟨.bl _, H, I, rfl, q _ H (.refl H) (.val (.bl _))⟩
    · cases hf
  · rename_i d l z; cases z
    split at hf
    · rename_i hc
      rw [Bool.and_eq_true] at hc
      cases hf
      obtain ⟨as, ra⟩ := h1.reads I hc.1 rx
      obtain ⟨bs, rb⟩ := h2.readsL I hc.2 ry
      simp only [zbb] at rb
      refine SeqAt.notIn_list_reads rb ra (zbP (zaM 8) l hc.2).1 (zaM 8 d hc.1).1 (ziU hu hc.1) ?_
      rw [zbs]
      exact ⟨.bl _, H, I, rfl, q _ H (.refl H) (.val (.bl _))⟩
    · cases hf
  · cases hf
theorem zf9 : ∀ x y : List Int, LW.lexLt x y = HT.lexLt x y
  | [], [] => rfl
  | [], _ :: _ => rfl
  | _ :: _, [] => rfl
  | a :: x, b :: y => by rw [HT.lexLt_cons, LW.lexLt, zf9 x y]
theorem zmO (hu : X.A.units + 64 < cLine) : OpR X (compareOp .Lt) (VR2 X.K (zai .lt)) := by
  rintro pins s σ H x y v u Q I rx ry ⟨W, ds, r, wf, hs, hf, q⟩
  obtain ⟨d, e, rfl, h1, h2⟩ := pr2 hs
  replace hf : pLt [d, e] = some r := hf
  unfold pLt at hf
  split at hf
  · rename_i a b z; cases z; cases hf
    cases h1.int; cases h2.int
    exact zp7 pins s σ H _ _ v u Q I rx ry ⟨_, _, rfl, rfl, q _ H (.refl H) (.val (.bl _))⟩
  · rename_i a b z; cases z
    simp only [jo1] at hf
    obtain ⟨ns, e1, ms, e2, hf⟩ := hf
    cases hf
    obtain ⟨p, xs, rfl, hp, rp⟩ := h1.tup
    obtain ⟨p2, xs2, rfl, hp2, rp2⟩ := h2.tup
    rw [rp.ofInts e1] at hp
    rw [rp2.ofInts e2] at hp2
    refine zmk (by omega) pins s σ H _ _ v u Q I rx ry ⟨_, _, ns, ms, rfl, rfl, hp, hp2, ?_⟩
    rw [← zf9]
    exact q _ H (.refl H) (.val (.bl _))
  · cases hf
theorem ziV : OpR X (compareOp .LtE) (VR2 X.K (zai .le)) := by
  rintro pins s σ H x y v u Q I rx ry ⟨W, ds, r, wf, hs, hf, q⟩
  obtain ⟨d, e, rfl, h1, h2⟩ := pr2 hs
  replace hf : pLe [d, e] = some r := hf
  unfold pLe at hf
  split at hf
  · rename_i a b z; cases z; cases hf
    cases h1.int; cases h2.int
    exact zp8 pins s σ H _ _ v u Q I rx ry ⟨_, _, rfl, rfl, q _ H (.refl H) (.val (.bl _))⟩
  · cases hf
theorem zqH : OpR X (compareOp .Gt) (VR2 X.K (zai .gt)) := by
  rintro pins s σ H x y v u Q I rx ry ⟨W, ds, r, wf, hs, hf, q⟩
  obtain ⟨d, e, rfl, h1, h2⟩ := pr2 hs
  replace hf : pGt [d, e] = some r := hf
  unfold pGt at hf
  split at hf
  · rename_i a b z; cases z; cases hf
    cases h1.int; cases h2.int
    exact zp9 pins s σ H _ _ v u Q I rx ry ⟨_, _, rfl, rfl, q _ H (.refl H) (.val (.bl _))⟩
  · cases hf
theorem zhJ {K : PySem.W.Frag} {W : Addr → Prop} {H : Hp} {ds : List D} {xs : List V} {i : Int} {d : D} (r : Reps K W H ds xs) (h : LW.atI ds i = some d) : ∃ x, L2.atI xs i = some x ∧ Rep K W H d x := by
  unfold LW.atI at h
  unfold L2.atI
  rw [jo1] at h
  obtain ⟨j, h1, h2⟩ := h
  obtain ⟨x, e, q⟩ := r.get h2
  refine ⟨x, ?_, q⟩
  rw [← r.length]
  rw [jo1]
  exact ⟨j, h1, e⟩
theorem zhK {value slice : Expr} {pins : List (Addr × Obj)} {s : Shared} {σ : St} {H : Hp} {a : Addr} {y v : V} {u : Value} {Q : VK} (hu : X.A.units + 64 < cLine) (I : Inv X pins σ H s) (g : DGet H a y (some v)) (ry : RelV y u) (q : Q v H)
    (hs : subscripted slice false (.ref a) u = operate [.ref a, u] (getItem (.ref a) u)) : wpAny (model X.prog X.w) X.A (subscriptTail value slice (.ref a) u) (EP X pins σ Q) X.xe s := by
  have hT := zfB I g
  unfold subscriptTail
  refine wpAny_bind ?_
  rw [getitemInPython_of_ne hT.not_modules]
  refine wpAny_bind (wpAny_specialOf hT PySem.F.slot_dict_getitem.lookup ?_)
  have fin : wpAny (model X.prog X.w) X.A (subscripted slice false (.ref a) u) (fun r s₃ => wpAny (model X.prog X.w) X.A (letTemporaryGo value (.ref a) r >>= fun _ => pure r) (EP X pins σ Q) X.xe s₃) X.xe s := by
    rw [hs]
    refine wpAny_operating (wpAny_mono (zhq (Q := EP X pins σ Q) (by omega) I g ry fun w' s' I' rv => ⟨v, H, I', rv, q⟩) (fun r s₃ h₃ => wpAny_bind (wpAny_letTemporaryGo (wpAny_pure h₃))) fun _ _ x => x)
  first
    | exact wpAny_pure (wpAny_bind fin)
    | exact wpAny_bind (wpAny_pure (wpAny_bind fin))
    | exact wpAny_pure (wpAny_bind (wpAny_pure (wpAny_bind fin)))
    | exact wpAny_bind (wpAny_bind (wpAny_pure fin))
theorem zmP (hu : X.A.units + 64 < cLine) : IxR X (VR2 X.K (zai .idx)) := by
  rintro value slice pins s σ H x y v u Q I rx ry ⟨W, ds, r, wf, hs, hf, q⟩ hsub
  obtain ⟨d, e, rfl, h1, h2⟩ := pr2 hs
  replace hf : zqm [d, e] = some r := hf
  unfold zqm at hf
  split at hf
  · rename_i t ks vs k z; cases z
    split at hf
    · rename_i hk
      rw [jo2] at hf
      obtain ⟨d', e1, rfl⟩ := hf
      cases t with
      | false =>
        cases e with
        | int i =>
          cases h2.int
          obtain ⟨a, ns, ys, rfl, rfl, hH, hl, rp⟩ := h1.dK
          cases rx
          obtain ⟨y, e2, ry'⟩ := zqD hl rp e1
          exact zhK hu I (by rw [← e2]; exact DGet.k (k := .inl i) hH) ry (q _ H (.refl H) (.val ry')) hsub
        | _ => simp [zbg] at hk
      | true =>
        cases e with
        | tup l =>
          obtain ⟨ms, hms⟩ : ∃ ms, ints? l = some ms := by simp only [zbg, Option.isSome_iff_exists] at hk; exact hk
          obtain ⟨b, xs, rfl, hb, rpb⟩ := h2.tupH
          obtain ⟨a, ns, ys, rfl, rfl, hH, hl, rp⟩ := h1.dT
          cases rx
          have z1 := rpb.ofInts hms
          have z2 := zdZ hms
          subst z1 z2
          obtain ⟨y, e2, ry'⟩ := zqE hl rp e1
          exact zhK hu I (by rw [← e2]; exact DGet.t (k := ms.map Sum.inl) hH (by rw [hb, zfF])) ry (q _ H (.refl H) (.val ry')) hsub
        | _ => simp [zbg] at hk
    · cases hf
  · rename_i l i z; cases z
    rw [jo2] at hf
    obtain ⟨d, e1, rfl⟩ := hf
    obtain ⟨p, xs, rfl, hp, rp⟩ := h1.tup
    cases h2.int
    obtain ⟨z, e2, rz⟩ := zhJ rp e1
    exact zml value slice pins s σ H _ _ v u Q I rx ry ⟨p, xs, i, z, rfl, rfl, hp, e2, q _ H (.refl H) (.val rz)⟩ hsub
  · rename_i l i z; cases z
    rw [jo2] at hf
    obtain ⟨d, e1, rfl⟩ := hf
    obtain ⟨p, xs, rfl, hp, rp⟩ := h1.lst
    cases h2.int
    obtain ⟨z, e2, rz⟩ := zhJ rp e1
    exact zkr value slice pins s σ H _ _ v u Q I rx ry ⟨p, xs, i, z, rfl, rfl, hp, e2, q _ H (.refl H) (.val rz)⟩ hsub
  · cases hf
theorem zeI : CallR X (.builtin "len") (VR X.K (zai .len)) := by
  rintro pins s σ H xs us Q I rv ⟨W, ds, r, wf, hs, hf, q⟩
  replace hf : zqn ds = some r := hf
  unfold zqn at hf
  split at hf
  · cases hf
    cases hs with
    | cons h1 t =>
      cases t
      obtain ⟨p, ys, rfl, hp, rp⟩ := h1.tup
      refine zcp pins s σ H _ us Q I rv ⟨p, ys, rfl, .inr hp, ?_⟩
      rw [← rp.length]
      exact q _ H (.refl H) (.val (.int _))
  · cases hf
    cases hs with
    | cons h1 t =>
      cases t
      obtain ⟨p, ys, rfl, hp, rp⟩ := h1.lst
      refine zcp pins s σ H _ us Q I rv ⟨p, ys, rfl, .inl hp, ?_⟩
      rw [← rp.length]
      exact q _ H (.refl H) (.val (.int _))
  · cases hf
theorem zga : CallR X (.type "tuple") (VR X.K (zai .toTup)) := by
  rintro pins s σ H xs us Q I rv ⟨W, ds, r, wf, hs, hf, q⟩
  replace hf : zhv ds = some r := hf
  unfold zhv at hf
  split at hf
  · cases hf
    cases hs with
    | cons h1 t =>
      cases t
      obtain ⟨p, ys, rfl, hp, rp⟩ := h1.tupH
      exact zbZ pins s σ H _ us Q I rv ⟨p, ys, rfl, .inr ⟨.of hp, q _ H (.refl H) (.val (.tup hp rp))⟩⟩
  · cases hf
    cases hs with
    | cons h1 t =>
      cases t
      obtain ⟨p, ys, rfl, hp, rp⟩ := h1.lst
      exact zbZ pins s σ H _ us Q I rv ⟨p, ys, rfl, .inl ⟨hp, fun l hl => q _ _ (zaN hl _) (zhD hl rp)⟩⟩
  · cases hf
end
end L2.LW
set_option maxHeartbeats 4000000
namespace L2.LW
open PySem PySem.Spec PyProof.Rows
structure IE (X : Cx) (fn : Nat → List D → Option SV) (e : Expr) (c : E) : Prop where
  h : PE X e (tE X.K fn c)
structure IA (X : Cx) (fn : Nat → List D → Option SV) (es : List Expr) (cs : Es) : Prop where
  h : PA X es (tVs X.K fn cs)
structure IT (X : Cx) (fn : Nat → List D → Option SV) (e : Expr) (c : E) : Prop where
  h : PT X e (tT X.K fn c)
structure IW (X : Cx) (fn : Nat → List D → Option SV) (e : Expr) (c : E) : Prop where
  h : PW X e (tT X.K fn c)
theorem Res.back {K : PySem.W.Frag} {W : Addr → Prop} {H H1 H2 : Hp} {r : SV} {v : V} (h : Res K W H1 H2 r v) (s : Same H H1) : Res K W H H2 r v := by
  cases h with
  | val h => exact .val h
  | new h e r => exact .new (s.free h) e r
  | see h e r => exact .see h e r
theorem R.wf' {K : PySem.W.Frag} {W : Addr → Prop} {ρ : LW.Env} {σ : St} {H H' : Hp} (r : R K W ρ σ H) (s : Same H H') : Wf W H' := (r.same s).wf
theorem zgb {K : PySem.W.Frag} {W : Addr → Prop} {H : Hp} : ∀ {rs : List SV} {vs : List V}, Paired (Frz K W H) rs vs → Paired (Sees K W H) (rs.map za0) vs
  | _, _, .nil => .nil
  | _, _, .cons h t => .cons h.sees (zgb t)
theorem zd0 {K : PySem.W.Frag} {W : Addr → Prop} {H : Hp} : ∀ {rs : List SV} {vs : List V} {ds : List D}, Paired (Frz K W H) rs vs → zfr rs = some ds → Reps K W H ds vs
  | _, _, _, .nil, e => by simp [zfr] at e; subst e; exact .nil
  | _, _, _, .cons h t, e => by
    simp only [zfr, jo1, jo2] at e
    obtain ⟨d, e1, ds, e2, rfl⟩ := e
    exact .cons (h.toD e1) (zd0 t e2)
section
variable {es : List Expr} {env : PySem.Env}
theorem zab {a b} : starEach (.Name a b :: es) env = (false, eval (.Name a b) env) :: starEach es env := rfl
theorem zac {a b c} : starEach (.Constant a b c :: es) env = (false, eval (.Constant a b c) env) :: starEach es env := rfl
theorem zbD {a b c d} : starEach (.BinOp a b c d :: es) env = (false, eval (.BinOp a b c d) env) :: starEach es env := rfl
theorem zcq {a b c} : starEach (.UnaryOp a b c :: es) env = (false, eval (.UnaryOp a b c) env) :: starEach es env := rfl
theorem zaP {a b c d} : starEach (.Call a b c d :: es) env = (false, eval (.Call a b c d) env) :: starEach es env := rfl
theorem zar {a b c} : starEach (.Subscript a b c :: es) env = (false, eval (.Subscript a b c) env) :: starEach es env := rfl
theorem zas {a b c} : starEach (.Tuple a b c :: es) env = (false, eval (.Tuple a b c) env) :: starEach es env := rfl
theorem zaB {a b c d} : starEach (.ListComp a b c d :: es) env = (false, eval (.ListComp a b c d) env) :: starEach es env := rfl
theorem zak {pos : Pos} : (backTo pos (starEach [] env)).any (·.1) = false := rfl
theorem zaq {pos : Pos} {e : Expr} (h : starEach (e :: es) env = (false, eval e env) :: starEach es env) (t : (backTo pos (starEach es env)).any (·.1) = false) : (backTo pos (starEach (e :: es) env)).any (·.1) = false := by
  rw [h]; simpa [backTo] using t
theorem za7 {a b c d} : ∀ whole, isTrue (.Call a b c d) env whole = (do let v ← whole; standAt (Expr.Call a b c d).pos; holding [v] (truthy v)) := fun _ => rfl
end
section
variable {X : Cx} {fn : Nat → List D → Option SV} {a b c e : Expr} {ca cb cc ce : E} {es : List Expr} {cs : Es} {pos p : Pos} {x : Str}
theorem IE.v (h : IE X fn e ce) : PE X e (tV X.K fn ce) := h.h.imp fun σ H Q ⟨W, ρ, r, hR, he, q⟩ => ⟨W, ρ, r, hR, he, fun v H' s x => q v H' s (x.frz hR.wf)⟩
theorem zax {i : Int} {j : Nat} : IE X fn (.Constant (.int i) j pos) (.int i) := .mk <| zlZ.imp fun σ H Q zz3 => by
  obtain ⟨W, ρ, r, hR, he, q⟩ := zz3
  simp only [zj2] at he; cases he; exact q _ H (.refl H) (.val (.int i))
theorem zr1 {i : Bool} {j : Nat} : IE X fn (.Constant (.bool i) j pos) (.bl i) := .mk <| zpU.imp fun σ H Q zz3 => by
  obtain ⟨W, ρ, r, hR, he, q⟩ := zz3
  simp only [zqz] at he; cases he; exact q _ H (.refl H) (.val (.bl i))
theorem zhL {i : Str} {j : Nat} : IE X fn (.Constant (.str i) j pos) (.str i) := .mk <| zbn.imp fun σ H Q zz3 => by
  obtain ⟨W, ρ, r, hR, he, q⟩ := zz3
  simp only [zmA] at he; cases he; exact q _ H (.refl H) (.val (.str i))
theorem zal (i : Nat) (hN : X.N[i]? = some x) (hv : Vis X.env.scope x) (hd : (x == ("__debug__" : Str)) = false := by decide) (hcd : (x == ("__classdict__" : Str)) = false := by decide) : IE X fn (.Name x pos) (.var i) :=
  .mk <| (zcP hN hv hd hcd).imp fun σ H Q zz3 => by
    obtain ⟨W, ρ, r, hR, he, q⟩ := zz3
    simp only [zmB] at he
    obtain ⟨v, h1, _, h3⟩ := hR.look he
    exact ⟨v, h1, q v H (.refl H) h3⟩
theorem zbQ {i : Int} {t : Tok} (hg : Gl X x) (hm : X.mg x = some (.int i t)) (hd : (x == ("__debug__" : Str)) = false := by decide) : IE X fn (.Name x pos) (.int i) :=
  .mk <| (zkj hg hm (v := .int i) ⟨t, rfl⟩ hd).imp fun σ H Q zz3 => by
    obtain ⟨W, ρ, r, hR, he, q⟩ := zz3
    simp only [zj2] at he; cases he; exact q _ H (.refl H) (.val (.int i))
theorem zao : IA X fn [] .nil := .mk <| zbY.imp fun σ H Q zz3 => by
  obtain ⟨W, ρ, rs, hR, he, q⟩ := zz3
  simp only [zba] at he; cases he; exact q _ H (.refl H) .nil
theorem zaf (ha : IE X fn e ce) (hr : IA X fn es cs) (hs : starEach (e :: es) X.env = (false, eval e X.env) :: starEach es X.env := by rfl) : IA X fn (e :: es) (.cons ce cs) :=
  .mk <| (za3 ha.v hr.h hs).imp fun σ H Q zz3 => by
    obtain ⟨W, ρ, rs, hR, he, q⟩ := zz3
    simp only [za1, jo1, jo2] at he
    obtain ⟨r, e1, rs', e2, rfl⟩ := he
    exact ⟨W, ρ, r, hR, e1, fun v H1 s1 f1 => ⟨W, ρ, rs', hR.same s1, e2, fun vs H2 s2 f2 => q _ H2 (s1.trans s2) (.cons (f1.same s2) f2)⟩⟩
theorem zcg {K : PySem.W.Frag} {p : Prim} {W : Addr → Prop} {ρ : LW.Env} {σ : St} {H H1 : Hp} {Q : VK} {rs : List SV} {vs : List V} {r : SV} (hR : R K W ρ σ H) (s1 : Same H H1) (f : Paired (Frz K W H1) rs vs)
    (e : zai p (rs.map za0) = some r) (q : ∀ v H', Same H H' → Res K W H H' r v → Q v H') : VR K (zai p) vs H1 Q :=
  ⟨W, rs.map za0, r, hR.wf' s1, zgb f, e, fun v H' s2 h => q v H' (s1.trans s2) (h.back s1)⟩
theorem zgc {K : PySem.W.Frag} {p : Prim} {ρ : LW.Env} {σ : St} {H : Hp} {Q : VK} {W : Addr → Prop} {r : SV} (hR : R K W ρ σ H) (he : evE fn (.prim p (.cons ca (.cons cb .nil))) ρ = some r) (q : ∀ v H', Same H H' → Res K W H H' r v → Q v H') :
    tOp (VR2 K (zai p)) (tV K fn ca) (tV K fn cb) σ H Q := by
  simp only [zbi, zba, za1, jo1, jo2] at he
  obtain ⟨rs, ⟨r1, e1, rs', ⟨r2, e2, rs'', e3, rfl⟩, rfl⟩, e4⟩ := he
  cases e3
  exact ⟨W, ρ, r1, hR, e1, fun v1 H1 s1 f1 => ⟨W, ρ, r2, hR.same s1, e2, fun v2 H2 s2 f2 => zcg hR (s1.trans s2) (.cons (f1.same s2) (.cons f2 .nil)) e4 q⟩⟩
theorem zlD {op : Operator} {pr : Prim} (ho : OpR X (binaryOp op) (VR2 X.K (zai pr))) (ha : IE X fn a ca) (hb : IE X fn b cb) : IE X fn (.BinOp a op b pos) (.prim pr (.cons ca (.cons cb .nil))) :=
  .mk <| (zl9 ho ha.v hb.v).imp fun σ H Q ⟨W, ρ, r, hR, he, q⟩ => zgc hR he q
theorem zr2 {op : UnaryOp} {pr : Prim} (ho : UnR X (unaryOp op) (VR1 X.K (zai pr))) (ha : IE X fn a ca) : IE X fn (.UnaryOp op a pos) (.prim pr (.cons ca .nil)) :=
  .mk <| (zp3 ho ha.v).imp fun σ H Q zz3 => by
    obtain ⟨W, ρ, r, hR, he, q⟩ := zz3
    simp only [zbi, zba, za1, jo1, jo2] at he
    obtain ⟨rs, ⟨r1, e1, rs', e3, rfl⟩, e4⟩ := he
    cases e3
    exact ⟨W, ρ, r1, hR, e1, fun v1 H1 s1 f1 => zcg hR s1 (.cons f1 .nil) e4 q⟩
theorem ziW {op : CmpOp} {pr : Prim} (ho : OpR X (compareOp op) (VR2 X.K (zai pr))) (ha : IE X fn a ca) (hb : IE X fn b cb) (hm : behindInMarks op b = false) : IE X fn (.Compare a [op] [b] pos) (.prim pr (.cons ca (.cons cb .nil))) :=
  .mk <| (zko ho ha.v hb.v hm).imp fun σ H Q ⟨W, ρ, r, hR, he, q⟩ => zgc hR he q
theorem zhM (hu : X.A.units + 64 < cLine) (ha : IE X fn a ca) (hb : IE X fn b cb) (hs : zhn b) : IE X fn (.Subscript a b pos) (.prim .idx (.cons ca (.cons cb .nil))) :=
  .mk <| (zqf (zmP hu) ha.v hb.v hs).imp fun σ H Q ⟨W, ρ, r, hR, he, q⟩ => zgc hR he q
theorem zhN {K : PySem.W.Frag} {pr : Prim} {ρ : LW.Env} {σ : St} {H : Hp} {Q : VK} {W : Addr → Prop} {r : SV} (hR : R K W ρ σ H) (he : evE fn (.prim pr cs) ρ = some r) (q : ∀ v H', Same H H' → Res K W H H' r v → Q v H') :
    tCB (VR K (zai pr)) (tVs K fn cs) σ H Q := by
  simp only [zbi, jo1] at he
  obtain ⟨rs, e1, e2⟩ := he
  exact ⟨W, ρ, rs, hR, e1, fun vs H1 s1 f => zcg hR s1 f e2 q⟩
theorem zbt {id : String} {pr : Prim} (hc : CallR X (.builtin id) (VR X.K (zai pr))) (hg : Gl X x) (hm : X.mg x = none) (hv : bootBuiltins x = some (.builtin id)) (ha : IA X fn (e :: es) cs) (hn : x ≠ "__name__" := by decide) (hdb : (x == ("__debug__" : Str)) = false := by decide)
    (he : starEach (e :: es) X.env = (false, eval e X.env) :: starEach es X.env := by rfl) (hpl : (backTo pos (starEach es X.env)).any (·.1) = false := by rfl) : IE X fn (.Call (.Name x p) (e :: es) [] pos) (.prim pr cs) :=
  .mk <| (zcK hc hg hm hv ha.h hn hdb he hpl).imp fun σ H Q ⟨W, ρ, r, hR, h, q⟩ => zhN hR h q
theorem zgd {T : String} {pr : Prim} (hc : CallR X (.type T) (VR X.K (zai pr))) (hg : Gl X x) (hm : X.mg x = none) (hv : bootBuiltins x = some (.type T)) (ha : IA X fn (e :: es) cs) (hn : x ≠ "__name__" := by decide) (hdb : (x == ("__debug__" : Str)) = false := by decide)
    (he : starEach (e :: es) X.env = (false, eval e X.env) :: starEach es X.env := by rfl) (hpl : (backTo pos (starEach es X.env)).any (·.1) = false := by rfl) : IE X fn (.Call (.Name x p) (e :: es) [] pos) (.prim pr cs) :=
  .mk <| (zhl hc hg hm hv ha.h hn hdb he hpl).imp fun σ H Q ⟨W, ρ, r, hR, h, q⟩ => zhN hR h q
theorem zd1 {K : PySem.W.Frag} {W : Addr → Prop} {H : Hp} : ∀ {rs : List SV} {ds : List D}, zfr rs = some ds → ds.length = rs.length
  | [], _, e => by simp [zfr] at e; subst e; rfl
  | r :: rs, _, e => by
    simp only [zfr, jo1, jo2] at e
    obtain ⟨d, e1, ds, e2, rfl⟩ := e
    simp [zd1 (K := K) (W := W) (H := H) e2]
noncomputable def zhO : Es → Nat
  | .nil => 0
  | .cons _ r => zhO r + 1
theorem zd2 : ∀ {cs : Es} {ρ : LW.Env} {rs : List SV}, zbp fn cs ρ = some rs → rs.length = zhO cs
  | .nil, _, _, e => by simp only [zba] at e; cases e; rfl
  | .cons c cs, _, _, e => by
    simp only [za1, jo1, jo2] at e
    obtain ⟨r, e1, rs', e2, rfl⟩ := e
    simp [zhO, zd2 e2]
theorem zcD {k : Nat} (h : IA X fn es cs) (hl : zhO cs ≤ 1000 := by decide) : IE X fn (.Tuple es k pos) (.tup cs) :=
  .mk <| (zmh h.h).imp fun σ H Q zz3 => by
    obtain ⟨W, ρ, r, hR, he, q⟩ := zz3
    simp only [zmC, jo1, jo2] at he
    obtain ⟨rs, e1, ds, e2, rfl⟩ := he
    refine ⟨W, ρ, rs, hR, e1, fun vs H1 s1 f => ?_⟩
    have r1 := zd0 f e2
    have l1 := r1.length
    have l2 := zd1 (K := X.K) (W := W) (H := H) e2
    have l3 := zd2 e1
    exact ⟨Nat.le_of_lt (zeE (by omega)), fun p hp => q _ _ (s1.trans (zaN hp _)) ((zhD hp r1).back s1)⟩
theorem zmQ (h : IA X fn es cs) (hl : zhO cs ≤ 1000 := by decide) : IE X fn (.List es pos) (.lst cs) :=
  .mk <| (zhi h.h).imp fun σ H Q zz3 => by
    obtain ⟨W, ρ, r, hR, he, q⟩ := zz3
    simp only [zmD, jo1, jo2] at he
    obtain ⟨rs, e1, ds, e2, rfl⟩ := he
    refine ⟨W, ρ, rs, hR, e1, fun vs H1 s1 f => ?_⟩
    have r1 := zd0 f e2
    have l1 := r1.length
    have l2 := zd1 (K := X.K) (W := W) (H := H) e2
    have l3 := zd2 e1
    exact ⟨Nat.le_of_lt (zeE (by omega)), fun p hp => q _ _ (s1.trans (zaN hp _)) ((zfD hp r1).back s1)⟩
theorem ziX {op : BoolOp} (h : IE X fn a ca) : IE X fn (.BoolOp op [a] pos) ca := .mk (zl2 h.h)
theorem zgD {zbX : List Expr} (ha : IE X fn a ca) (hb : IE X fn (.BoolOp .And (b :: zbX) pos) cb) : IE X fn (.BoolOp .And (a :: b :: zbX) pos) (.and ca cb) :=
  .mk <| (zl3 ha.h hb.h).imp fun σ H Q zz3 => by
    obtain ⟨W, ρ, r, hR, he, q⟩ := zz3
    simp only [zmE, jo1] at he
    obtain ⟨r1, e1, e2⟩ := he
    refine ⟨W, ρ, r1, hR, e1, fun v H1 s1 f => ?_⟩
    split at e2
    · cases f with
      | val h =>
        cases h
        exact ⟨true, rfl, by rw [if_pos rfl]; exact ⟨W, ρ, r, hR.same s1, e2, fun v H2 s2 h => q v H2 (s1.trans s2) (h.back s1)⟩⟩
    · cases f with
      | val h =>
        cases h; cases e2
        exact ⟨false, rfl, by rw [if_neg Bool.false_ne_true]; exact q _ H1 s1 (.val (.bl false))⟩
    · cases e2
theorem zqI (hc : IT X fn c cc) (ha : IE X fn a ca) (hb : IE X fn b cb) : IE X fn (.IfExp c a b pos) (.ite cc ca cb) :=
  .mk <| (ziD hc.h ha.h hb.h).imp fun σ H Q zz3 => by
    obtain ⟨W, ρ, r, hR, he, q⟩ := zz3
    simp only [zmF, jo1] at he
    obtain ⟨k, e1, e2⟩ := he
    refine ⟨W, ρ, k, hR, e1, fun H1 s1 => ?_⟩
    cases k with
    | true => rw [if_pos rfl] at e2 ⊢; exact ⟨W, ρ, r, hR.same s1, e2, fun v H2 s2 h => q v H2 (s1.trans s2) (h.back s1)⟩
    | false => rw [if_neg Bool.false_ne_true] at e2 ⊢; exact ⟨W, ρ, r, hR.same s1, e2, fun v H2 s2 h => q v H2 (s1.trans s2) (h.back s1)⟩
theorem zkM {op op' : CmpOp} {p q : Prim} (ho : OpR X (compareOp op) (VR2 X.K (zai p))) (ho' : OpR X (compareOp op') (VR2 X.K (zai q))) (ha : IE X fn a ca) (hb : IE X fn b cb) (hc : IE X fn c cc)
    (hm : lastMarks [op, op'] [b, c] = false := by with_unfolding_all rfl) : IE X fn (.Compare a [op, op'] [b, c] pos) (.chain p q ca cb cc) :=
  .mk <| (ziF ho ho' ha.v hb.v hc.v hm).imp fun σ H Q zz3 => by
    obtain ⟨W, ρ, r, hR, he, hq⟩ := zz3
    simp only [ziQ, jo1] at he
    obtain ⟨r1, e1, r2, e2, z, e3, e4⟩ := he
    refine ⟨W, ρ, r1, hR, e1, fun v1 H1 s1 f1 => ⟨W, ρ, r2, hR.same s1, e2, fun v2 H2 s2 f2 => ?_⟩⟩
    refine ⟨W, _, z, hR.wf' (s1.trans s2), .cons (f1.same s2).sees (.cons f2.sees .nil), e3, fun v H3 s3 h3 => ?_⟩
    split at e4
    · cases h3 with
      | val h3 =>
        cases h3
        simp only [jo1] at e4
        obtain ⟨r3, e5, e6⟩ := e4
        refine ⟨true, rfl, ?_⟩
        rw [if_pos rfl]
        have s13 := (s1.trans s2).trans s3
        refine ⟨W, ρ, r3, hR.same s13, e5, fun v4 H4 s4 f4 => ?_⟩
        exact ⟨W, _, r, hR.wf' (s13.trans s4), .cons ((f2.same s3).same s4).sees (.cons f4.sees .nil), e6, fun v5 H5 s5 h5 => hq v5 H5 (s13.trans (s4.trans s5)) (h5.back (s13.trans s4))⟩
    · cases h3 with
      | val h3 =>
        cases h3; cases e4
        exact ⟨false, rfl, by rw [if_neg Bool.false_ne_true]; exact hq _ H3 ((s1.trans s2).trans s3) (.val (.bl false))⟩
    · cases e4
theorem IW.t (h : IW X fn e ce) : IT X fn e ce := .mk (PW.pt h.h)
theorem ziY (h : IT X fn a ca) : IW X fn (.BoolOp .Or [a] pos) ca := .mk (zl0 h.h)
theorem zoA {zbX : List Expr} (ha : IT X fn a ca) (hb : IW X fn (.BoolOp .Or (b :: zbX) pos) cb) : IW X fn (.BoolOp .Or (a :: b :: zbX) pos) (.or ca cb) :=
  .mk <| (zpV ha.h hb.h).imp fun σ H Q zz3 => by
    obtain ⟨W, ρ, k, hR, he, q⟩ := zz3
    simp only [zqA, jo1] at he
    obtain ⟨k1, e1, e2⟩ := he
    refine ⟨W, ρ, k1, hR, e1, fun H1 s1 => ?_⟩
    cases k1 with
    | true => rw [if_pos rfl] at e2 ⊢; cases e2; exact q H1 s1
    | false => rw [if_neg Bool.false_ne_true] at e2 ⊢; exact ⟨W, ρ, k, hR.same s1, e2, fun H2 s2 => q H2 (s1.trans s2)⟩
theorem zcX (ha : IT X fn a ca) : IT X fn (.UnaryOp .Not a pos) (.not ca) :=
  .mk <| (zl1 ha.h).imp fun σ H Q zz3 => by
    obtain ⟨W, ρ, k, hR, he, q⟩ := zz3
    simp only [zmG, jo2] at he
    obtain ⟨k1, e1, rfl⟩ := he
    exact ⟨W, ρ, k1, hR, e1, fun H1 s1 => q H1 s1⟩
noncomputable def zd3 : Prim → Bool
  | .eq => true | .ne => true | .lt => true | .le => true | .gt => true | .ge => true | .inn => true | .nin => true | .isN => true | .notN => true | .eqS => true | .neS => true
  | _ => false
theorem zfG {b : Bool} {r : SV} (h : zdC b = some r) : r = .val (.bl b) := by cases h; rfl
theorem zdE {p : Prim} (hp : zd3 p = true) {ds : List D} {r : SV} (h : zai p ds = some r) : ∃ b, r = .val (.bl b) := by
  cases p <;> first | cases hp | skip
  all_goals
    simp only [zai] at h
    first | unfold zou at h | unfold zov at h | unfold pEq at h | unfold pNe at h | unfold pLt at h | unfold pLe at h | unfold pGt at h | unfold pGe at h | unfold pIn at h | unfold zot at h | unfold zr0 at h | unfold zmr at h
    split at h
    all_goals first
      | exact ⟨_, zfG h⟩
      | cases h
      | (split at h <;> first | exact ⟨_, zfG h⟩ | cases h)
      | (simp only [jo1] at h; obtain ⟨_, _, _, _, h⟩ := h; exact ⟨_, zfG h⟩)
theorem zcY {op : CmpOp} {pr : Prim} (hp : zd3 pr = true) (ho : OpR X (compareOp op) (VR2 X.K (zai pr))) (ha : IE X fn a ca) (hb : IE X fn b cb) (hm : behindInMarks op b = false) : IT X fn (.Compare a [op] [b] pos) (.prim pr (.cons ca (.cons cb .nil))) :=
  .mk <| (zkp ho ha.v hb.v hm).imp fun σ H Q zz3 => by
    obtain ⟨W, ρ, k, hR, he, q⟩ := zz3
    have he' : (evE fn (.prim pr (.cons ca (.cons cb .nil))) ρ).bind zaX = some k := by
      rw [zhB] at he
      rw [zbi]
      simp only [jo1] at he ⊢
      obtain ⟨rs, e1, r, e2, e3⟩ := he
      exact ⟨r, ⟨rs, e1, e2⟩, e3⟩
    rw [jo1] at he'
    obtain ⟨r, e1, e2⟩ := he'
    have e1' := e1
    rw [zbi] at e1'
    simp only [jo1] at e1'
    obtain ⟨rs, _, e3⟩ := e1'
    obtain ⟨b, rfl⟩ := zdE hp e3
    simp only [zaX] at e2
    cases e2
    exact zgc hR e1 fun v H' s h => by
      cases h with
      | val h => cases h; exact ⟨_, rfl, q H' s⟩
theorem zkN {op op' : CmpOp} {p q : Prim} (hp : zd3 p = true) (hq' : zd3 q = true) (ho : OpR X (compareOp op) (VR2 X.K (zai p))) (ho' : OpR X (compareOp op') (VR2 X.K (zai q))) (ha : IE X fn a ca) (hb : IE X fn b cb) (hc : IE X fn c cc)
    (hm : lastMarks [op, op'] [b, c] = false := by with_unfolding_all rfl) : IT X fn (.Compare a [op, op'] [b, c] pos) (.chain p q ca cb cc) :=
  .mk <| (ziG ho ho' ha.v hb.v hc.v hm).imp fun σ H Q zz3 => by
    obtain ⟨W, ρ, k, hR, he, hq⟩ := zz3
    simp only [ziR, jo1] at he
    obtain ⟨r1, e1, r2, e2, z, e3, e4⟩ := he
    refine ⟨W, ρ, r1, hR, e1, fun v1 H1 s1 f1 => ⟨W, ρ, r2, hR.same s1, e2, fun v2 H2 s2 f2 => ?_⟩⟩
    refine ⟨W, _, z, hR.wf' (s1.trans s2), .cons (f1.same s2).sees (.cons f2.sees .nil), e3, fun v H3 s3 h3 => ?_⟩
    split at e4
    · cases h3 with
      | val h3 =>
        cases h3
        simp only [jo1] at e4
        obtain ⟨r3, e5, r4, e6, e7⟩ := e4
        refine ⟨true, rfl, ?_⟩
        rw [if_pos rfl]
        have s13 := (s1.trans s2).trans s3
        refine ⟨W, ρ, r3, hR.same s13, e5, fun v4 H4 s4 f4 => ?_⟩
        refine ⟨W, _, r4, hR.wf' (s13.trans s4), .cons ((f2.same s3).same s4).sees (.cons f4.sees .nil), e6, fun v5 H5 s5 h5 => ?_⟩
        obtain ⟨b5, rfl⟩ := zdE hq' e6
        simp only [zaX] at e7
        cases e7
        cases h5 with
        | val h5 => cases h5; exact ⟨_, rfl, hq H5 (s13.trans (s4.trans s5))⟩
    · cases h3 with
      | val h3 =>
        cases h3; cases e4
        exact ⟨false, rfl, by rw [if_neg Bool.false_ne_true]; exact ⟨false, rfl, hq H3 ((s1.trans s2).trans s3)⟩⟩
    · cases e4
theorem zkO {K : PySem.W.Frag} {W : Addr → Prop} {H : Hp} {r : SV} {v : V} {k : Bool} (f : Frz K W H r v) (h : zaX r = some k) : zqb K v H k := by
  unfold zaX at h
  split at h
  · cases h; cases f with | val f => cases f; rfl
  · cases h; cases f with | val f => cases f; rfl
  · cases h; cases f with | val f => cases f; rfl
  · rename_i l
    cases h
    obtain ⟨a, xs, rfl, hq, rp⟩ := Frz.sees f |>.tup
    refine .inr (.inl ⟨xs, hq, ?_⟩)
    cases rp <;> rfl
  · cases h
    obtain ⟨a, xs, rfl, hq, rp⟩ := Frz.sees f |>.lst
    refine .inl ⟨xs, hq, ?_⟩
    cases rp <;> rfl
  · cases h
    obtain ⟨a, xs, rfl, hq, rp⟩ := Frz.sees f |>.lst
    refine .inl ⟨xs, hq, ?_⟩
    cases rp <;> rfl
  · cases h
theorem zcZ (hE : IE X fn e ce) (hev : ∀ ρ, evT fn ce ρ = (evE fn ce ρ).bind zaX) (he : ∀ whole, isTrue e X.env whole = (do let v ← whole; standAt e.pos; holding [v] (truthy v)) := by intro _; rfl) : IT X fn e ce :=
  .mk <| (ziH hE.v he).imp fun σ H Q zz3 => by
    obtain ⟨W, ρ, k, hR, ht, q⟩ := zz3
    rw [hev, jo1] at ht
    obtain ⟨r, e1, e2⟩ := ht
    exact ⟨W, ρ, r, hR, e1, fun v H1 s1 f => ⟨k, zkO f e2, q H1 s1⟩⟩
theorem zd4 (p : Prim) (cs : Es) : ∀ ρ, evT fn (.prim p cs) ρ = (evE fn (.prim p cs) ρ).bind zaX := fun ρ => by rw [zhB, zbi, Option.bind_assoc]
theorem zbR (f : Nat) (cs : Es) : ∀ ρ, evT fn (.call f cs) ρ = (evE fn (.call f cs) ρ).bind zaX := fun ρ => by rw [zkE, zhA, Option.bind_assoc]
end
end L2.LW
set_option maxHeartbeats 4000000
namespace L2.LW
open PySem PySem.Spec PyProof.Rows
noncomputable def spI (K : PySem.W.Frag) (fn : Nat → List D → Option SV) (i : Nat) : Sp := fun vs H Q _ => ∃ W ds r, Wf W H ∧ Reps K W H ds vs ∧ fn i ds = some r ∧ ∀ v H', Same H H' → Res K W H H' r v → Q v H'
structure ARep (K : PySem.W.Frag) (W : Addr → Prop) (H : Hp) (io : List Nat) (ds : List D) (vs : List V) : Prop where
  len : ds.length = vs.length
  val : ∀ (k : Nat) (d : D), ds[k]? = some d → k ∉ io → ∃ v, vs[k]? = some v ∧ Rep K W H d v
  obj : ∀ (k : Nat) (d : D), ds[k]? = some d → k ∈ io → ∃ a o, vs[k]? = some (.ref a) ∧ W a ∧ H a = some o ∧ ORep K W H d o
  inj : ∀ (j k : Nat) (a : Addr), j ∈ io → k ∈ io → vs[j]? = some (.ref a) → vs[k]? = some (.ref a) → j = k
noncomputable def ioV (io : List Nat) (vs : List V) (a : Addr) : Prop := ∃ k ∈ io, vs[k]? = some (.ref a)
noncomputable def zr3 (K : PySem.W.Frag) (W : Addr → Prop) (H : Hp) (io : List Nat) (vs : List V) (outs : List D) : Prop :=
  Paired (fun k d => ∃ a o, vs[k]? = some (.ref a) ∧ H a = some o ∧ ORep K W H d o) io outs
noncomputable def spA (K : PySem.W.Frag) (fa : Nat → List D → Option Ans) (i : Nat) (io : List Nat) : Sp := fun vs H Q _ => ∃ W ds r outs, Wf W H ∧ ARep K W H io ds vs ∧ fa i ds = some (.ok r outs) ∧
  ∀ v H', (∀ a o, H a = some o → ¬ ioV io vs a → H' a = some o) → zr3 K W H' io vs outs → Res K W H H' r v → Q v H'
theorem Reps.get' {K : PySem.W.Frag} {W : Addr → Prop} {H : Hp} {ds : List D} {vs : List V} (r : Reps K W H ds vs) : ARep K W H [] ds vs :=
  ⟨r.length, fun k d h _ => r.get h, fun k d _ h => (by cases h), fun j k a h => (by cases h)⟩
theorem zge {fa : Nat → List D → Option Ans} {i : Nat} {ds : List D} {r : SV} (h : prj fa i ds = some r) : fa i ds = some (.ok r []) := by
  unfold prj at h
  split at h
  · rename_i r' e; cases h; exact e
  · cases h
theorem zaC {Pg : Program} {w : World} {K : PySem.W.Frag} {mg : Str → Option Value} {base : Heap} {k : Nat} {f : Addr} {fd : FuncData} {ps : List Str} {fa : Nat → List D → Option Ans} {i : Nat} {io : List Nat}
    (F : FnOk Pg w K mg base CX0 k f fd ps (spA K fa i io)) (h : io = []) : FnOk Pg w K mg base CX0 k f fd ps (spI K (prj fa) i) := by
  subst h
  exact F.imp fun vs H Q E ⟨W, ds, r, wf, rp, e, q⟩ => ⟨W, ds, r, [], wf, rp.get', zge e, fun v H' k _ res => q v H' (fun a o h => k a o h fun ⟨_, z, _⟩ => by cases z) res⟩
theorem zd5 {K : PySem.W.Frag} {W : Addr → Prop} {H : Hp} : ∀ {rs : List SV} {vs : List V}, Paired (Frz K W H) rs vs → rs.any SV.lent = false → Reps K W H (rs.map za0) vs
  | _, _, .nil, _ => .nil
  | _, _, .cons h t, e => by
    simp only [List.any_cons, Bool.or_eq_false_iff] at e
    refine .cons ?_ (zd5 t e.2)
    cases h with
    | val h => exact h
    | lis h e' r => exact r.rep h e'
    | see h e' r => simp [SV.lent] at e
theorem zhP {K : PySem.W.Frag} {W : Addr → Prop} {H : Hp} : ∀ {rs : List SV} {vs : List V}, Paired (Frz K W H) rs vs → Reps K (fun _ => False) H (rs.map za0) vs
  | _, _, .nil => .nil
  | _, _, .cons h t => by
    refine .cons ?_ (zhP t)
    cases h with
    | val h => exact h.less fun _ z => z.elim
    | lis h e' r => exact (r.less fun _ z => z.elim).rep (fun z => z) e'
    | see h e' r => exact (r.less fun _ z => z.elim).rep (fun z => z) e'
theorem Res.plain {K : PySem.W.Frag} {W W' : Addr → Prop} {H H' : Hp} {r : SV} {v : V} (h : Res K W' H H' r v) (wf : ∀ a, W' a → W a) (p : r.plain = true) : Res K W H H' r v := by
  cases h with
  | val h => exact .val (h.plain p)
  | new h e r => exact .new h e (r.plain p)
  | see h e r => exact .see (wf _ h) e (r.plain p)
section
variable {X : Cx} {fn : Nat → List D → Option SV} {fuel : Nat} {a b c e : Expr} {ca cb cc ce : E} {es : List Expr} {cs : Es} {pos p : Pos} {x : Str}
theorem zaS {k : Nat} {f : Addr} {fd : FuncData} {ps : List Str} {i : Nat} (F : FnOk X.prog X.w X.K X.mg X.base CX0 k f fd ps (spI X.K fn i)) (hr : Room k X.A) (hg : Gl X x) (hm : X.mg x = some (.ref f)) (hk : PySem.W.keepIn X.K (.ref f) = true)
    (hb : Binds X.K fd ps []) (ha : IA X fn (e :: es) cs) (hdb : (x == ("__debug__" : Str)) = false := by decide) (he : starEach (e :: es) X.env = (false, eval e X.env) :: starEach es X.env := by rfl)
    (hpl : (backTo pos (starEach es X.env)).any (·.1) = false := by rfl) : IE X fn (.Call (.Name x p) (e :: es) [] pos) (.call i cs) :=
  .mk <| (zhj F hr hg hm hk hb .nil zqg ha.h hdb he hpl).imp fun σ H Q zz3 => by
    obtain ⟨W, ρ, r, hR, h, q⟩ := zz3
    simp only [zhA, jo1, zce] at h
    obtain ⟨rs, e1, r', e2, e3⟩ := h
    split at e3
    · cases e3
    · rename_i hc
      cases e3
      refine ⟨W, ρ, rs, hR, e1, fun vs H1 s1 f => ?_⟩
      show spI X.K fn i (vs ++ []) H1 Q E0
      rw [List.append_nil]
      cases hl : rs.any SV.lent with
      | false => exact ⟨W, _, r, hR.wf' s1, zd5 f hl, e2, fun v H' s2 h => q v H' (s1.trans s2) (h.back s1)⟩
      | true =>
        have hp : r.plain = true := by
          cases hp : r.plain with
          | true => rfl
          | false => exact absurd (by rw [hl, hp]; rfl) hc
        exact ⟨fun _ => False, _, r, fun _ z => z.elim, zhP f, e2, fun v H' s2 h => q v H' (s1.trans s2) ((h.plain (fun _ z => z.elim) hp).back s1)⟩
section
variable {K : PySem.W.Frag} {W : Addr → Prop} {ρ : LW.Env} {σ : St} {H H' : Hp} {i j : Nat} {d : D} {v : V}
theorem zaD {α : Type} {l : List α} {i j : Nat} {x y : α} (h : (l.set i x)[j]? = some y) : (i = j ∧ y = x ∧ j < l.length) ∨ (i ≠ j ∧ l[j]? = some y) := by
  rw [List.getElem?_set] at h
  split at h
  · rename_i e
    subst e
    split at h
    · cases h; exact .inl ⟨rfl, rfl, by assumption⟩
    · cases h
  · exact .inr ⟨by assumption, h⟩
theorem zbS {α : Type} {l : List α} {i : Nat} {x : α} (h : i < l.length) : (l.set i x)[i]? = some x := by simp [h]
theorem zap {α : Type} {l : List α} {i j : Nat} {x : α} (h : i ≠ j) : (l.set i x)[j]? = l[j]? := List.getElem?_set_ne h
theorem R.set_val (r : R K W ρ σ H) (h : Rep K W H d v) : R K W (ρ.set i (some (.val d))) (σ.set i (some v)) H := by
  refine ⟨fun j e hj => ?_, fun j e hj => ?_, fun j x e hj hc => ?_, fun j k x y e1 e2 a h1 h2 c1 c2 h3 h4 => ?_, r.wf, by simpa using r.len⟩
  · rcases zaD hj with ⟨rfl, z, hl⟩ | ⟨n, z⟩
    · cases z
      exact ⟨v, zbS (by rw [← r.len]; exact hl), h⟩
    · obtain ⟨u, h1, h2⟩ := r.val j e z
      exact ⟨u, by rw [zap n]; exact h1, h2⟩
  · rcases zaD hj with ⟨rfl, z, hl⟩ | ⟨n, z⟩
    · cases z
    · exact r.nol j e z
  · rcases zaD hj with ⟨rfl, z, hl⟩ | ⟨n, z⟩
    · cases z; cases hc
    · obtain ⟨a, o, h1, h2⟩ := r.own j x e z hc
      exact ⟨a, o, by rw [zap n]; exact h1, h2⟩
  · rcases zaD h1 with ⟨rfl, z, hl⟩ | ⟨n, z⟩
    · cases z; cases c1
    · rcases zaD h2 with ⟨rfl, z', hl⟩ | ⟨n', z'⟩
      · cases z'; cases c2
      · rw [zap n] at h3
        rw [zap n'] at h4
        exact r.inj j k x y e1 e2 a z z' c1 c2 h3 h4
theorem zfH {a : Addr} (h : Own (ρ.set i (some (.val d))) (σ.set i (some v)) a) : Own ρ σ a := by
  obtain ⟨j, x, e, h1, hc, h2⟩ := h
  rcases zaD h1 with ⟨rfl, z, hl⟩ | ⟨n, z⟩
  · cases z; cases hc
  · rw [zap n] at h2
    exact ⟨j, x, e, z, hc, h2⟩
theorem zgf {x : SV} (hx : ∀ d, x ≠ .io d) (hf : ¬ zeG ρ i) (j : Nat) : (zeG (ρ.set i (some x)) j ↔ zeG ρ j) ∧ (zeG ρ j → i ≠ j) := by
  refine ⟨⟨fun ⟨d, h⟩ => ?_, fun ⟨d, h⟩ => ?_⟩, fun h e => hf (by rw [e]; exact h)⟩
  · rcases zaD h with ⟨rfl, z, hl⟩ | ⟨n, z⟩
    · cases z; exact absurd rfl (hx d)
    · exact ⟨d, z⟩
  · exact ⟨d, by rw [zap (fun e => hf (by rw [e]; exact ⟨d, h⟩))]; exact h⟩
theorem zbu (r : R K W ρ σ H) (s : Same H H') (h : Rep K W H' d v) (hf : ¬ zeG ρ i) : SPost K W ρ σ H W (ρ.set i (some (.val d))) (σ.set i (some v)) H' :=
  ⟨(r.same s).set_val h, fun a o q _ => s a o q, fun a w => .inl w, fun a w n => ⟨w, fun z => n (zfH z)⟩, fun j => ⟨(zgf (x := .val d) (fun _ z => (nomatch z)) hf j).1, fun z => zap ((zgf (x := .val d) (fun _ z => (nomatch z)) hf j).2 z)⟩⟩
theorem zj6 {a : Addr} (wf : Wf W H) (s : Same H H') {o : HO} (e : H' a = some o) : Wf (add W a) H' := fun b w => by
  rcases w with w | rfl
  · cases q : H b with
    | none => exact absurd q (wf b w)
    | some u => rw [s b u q]; exact fun z => nomatch z
  · rw [e]; exact fun z => nomatch z
theorem zc0 {a : Addr} (s : Same H H') (h : H a = Option.none) : Ext W H (add W a) H' :=
  ⟨fun b o q _ => s b o q, fun b xs q => s b _ q, fun b o u q => s b _ q, fun b w => by
    rcases w with w | rfl
    · exact .inl w
    · exact .inr h⟩
theorem R.add {a : Addr} {o : HO} (r : R K W ρ σ H) (s : Same H H') (h : H a = Option.none) (e : H' a = some o) : R K (LW.add W a) ρ σ H' := by
  refine ⟨fun j d hj => ?_, r.nol, fun j x d hj hc => ?_, r.inj, zj6 r.wf s e, r.len⟩
  · obtain ⟨u, h1, h2⟩ := r.val j d hj
    exact ⟨u, h1, h2.ext (zc0 s h)⟩
  · obtain ⟨b, o, h1, h2, h3, h4⟩ := r.own j x d hj hc
    exact ⟨b, o, h1, .inl h2, s _ _ h3, h4.ext (zc0 s h)⟩
theorem R.noOwn {a : Addr} (r : R K W ρ σ H) (h : H a = Option.none) : ¬ Own ρ σ a := fun z => by
  obtain ⟨_, o, d, e, _⟩ := r.ownW z
  rw [h] at e; cases e
theorem zeJ {a : Addr} {o : HO} (r : R K W ρ σ H) (s : Same H H') (h : H a = Option.none) (e : H' a = some o) (rp : ORep K (LW.add W a) H' d o) (hf : ¬ zeG ρ i) :
    SPost K W ρ σ H (LW.add W a) (ρ.set i (some (.obj true d))) (σ.set i (some (.ref a))) H' := by
  have ra := r.add s h e
  refine ⟨⟨fun j d hj => ?_, fun j d hj => ?_, fun j x es hj hc => ?_, fun j k x y e1 e2 b h1 h2 c1 c2 h3 h4 => ?_, ra.wf, by simpa using r.len⟩, fun b o q _ => s b o q, (zc0 (W := W) s h).win, fun b w n => ⟨.inl w, fun z => ?_⟩,
    fun j => ⟨(zgf (x := .obj true d) (fun _ z => (nomatch z)) hf j).1, fun z => zap ((zgf (x := .obj true d) (fun _ z => (nomatch z)) hf j).2 z)⟩⟩
  · rcases zaD hj with ⟨rfl, z, hl⟩ | ⟨n, z⟩
    · cases z
    · obtain ⟨u, h1, h2⟩ := ra.val j d z
      exact ⟨u, by rw [zap n]; exact h1, h2⟩
  · rcases zaD hj with ⟨rfl, z, hl⟩ | ⟨n, z⟩
    · cases z
    · exact r.nol j d z
  · rcases zaD hj with ⟨rfl, z, hl⟩ | ⟨n, z⟩
    · cases z; cases hc
      exact ⟨a, o, zbS (by rw [← r.len]; exact hl), .inr rfl, e, rp⟩
    · obtain ⟨b, ys, h1, h2⟩ := ra.own j x es z hc
      exact ⟨b, ys, by rw [zap n]; exact h1, h2⟩
  · have other : ∀ {k : Nat} {x : SV} {e : D}, ρ[k]? = some (some x) → x.cell = some e → σ[k]? = some (some (.ref a)) → False := fun {k x e} q1 q3 q2 => r.noOwn h ⟨k, x, e, q1, q3, q2⟩
    rcases zaD h1 with ⟨rfl, z, hl⟩ | ⟨n, z⟩
    · rcases zaD h2 with ⟨rfl, _, _⟩ | ⟨n', z'⟩
      · rfl
      · rw [zbS (by rw [← r.len]; exact hl)] at h3
        cases h3
        rw [zap n'] at h4
        exact (other z' c2 h4).elim
    · rcases zaD h2 with ⟨rfl, z', hl⟩ | ⟨n', z'⟩
      · rw [zbS (by rw [← r.len]; exact hl)] at h4
        cases h4
        rw [zap n] at h3
        exact (other z c1 h3).elim
      · rw [zap n] at h3
        rw [zap n'] at h4
        exact r.inj j k x y e1 e2 b z z' c1 c2 h3 h4
  · obtain ⟨j, x, es, h1, hc, h2⟩ := z
    rcases zaD h1 with ⟨rfl, _, hl⟩ | ⟨n', z'⟩
    · rw [zbS (by rw [← r.len]; exact hl)] at h2
      cases h2
      exact r.wf _ w h
    · rw [zap n'] at h2
      exact n ⟨j, x, es, z', hc, h2⟩
noncomputable def del (W : Addr → Prop) (a : Addr) : Addr → Prop := fun b => W b ∧ b ≠ a
theorem ziZ (x : SV) (d : D) : (x.put d).cell = some d := by cases x <;> rfl
theorem zkP (x : SV) (d d' : D) : x.put d ≠ .val d' := by cases x <;> exact fun z => nomatch z
theorem zkQ (x : SV) (d d' : D) : x.put d ≠ .obj false d' := by
  cases x <;> intro z <;> first | cases z | (simp [SV.put] at z)
theorem zj7 {x : SV} {d : D} : (∃ d', x.put d = .io d') ↔ ∃ d', x = .io d' := by
  cases x with
  | io y => exact ⟨fun _ => ⟨_, rfl⟩, fun _ => ⟨_, rfl⟩⟩
  | _ => exact ⟨fun ⟨_, z⟩ => (nomatch z), fun ⟨_, z⟩ => (nomatch z)⟩
theorem zi0 {a : Addr} {x : SV} {d0 d' : D} {o o' : HO} (r : R K W ρ σ H) (h : ρ[i]? = some (some x)) (hc : x.cell = some d0) (h' : σ[i]? = some (some (.ref a))) (s : Same H H') (e : H' a = some o) (hk : (∀ xs, o ≠ .tup xs) ∧ (∀ b u, o ≠ .frz b u))
    (rp : ORep K W H' d' o') : SPost K W ρ σ H W (ρ.set i (some (x.put d'))) σ (upd H' a o') := by
  have r' := r.same s
  have hO : Own ρ σ a := ⟨i, x, d0, h, hc, h'⟩
  have hW : W a := (r.ownW hO).1
  have ext : Ext W H' W (upd H' a o') := by
    refine ⟨fun b o q n => ?_, fun b ys q => ?_, fun b o u q => ?_, fun b w => .inl w⟩
    · rw [zau (fun z => n (by rw [z]; exact hW))]; exact q
    · rw [zau (fun z => by rw [z, e] at q; cases q; exact hk.1 _ rfl)]; exact q
    · rw [zau (fun z => by rw [z, e] at q; cases q; exact hk.2 _ _ rfl)]; exact q
  have old : ∀ {k : Nat} {y : SV} {es : D}, (ρ.set i (some (x.put d')))[k]? = some (some y) → y.cell = some es → ∃ y' es', ρ[k]? = some (some y') ∧ y'.cell = some es' := fun {k y es} q c => by
    rcases zaD q with ⟨rfl, _, _⟩ | ⟨_, z⟩
    · exact ⟨_, _, h, hc⟩
    · exact ⟨_, _, z, c⟩
  refine ⟨⟨fun k d' hk => ?_, fun k d' hk => ?_, fun k y es hk hc' => ?_, fun k l x y e1 e2 b h1 h2 c1 c2 h3 h4 => ?_, fun b w => ?_, by simpa using r.len⟩, fun b o q n => ?_, fun b w => .inl w, fun b w n => ⟨w, fun z => ?_⟩, fun j => ⟨?_, fun _ => rfl⟩⟩
  · rcases zaD hk with ⟨rfl, z, hl⟩ | ⟨n, z⟩
    · exact absurd (Option.some.inj z).symm (zkP _ _ _)
    · obtain ⟨u, h1, h2⟩ := r'.val k d' z
      exact ⟨u, h1, h2.ext ext⟩
  · rcases zaD hk with ⟨rfl, z, hl⟩ | ⟨n, z⟩
    · exact absurd (Option.some.inj z).symm (zkQ _ _ _)
    · exact r.nol k d' z
  · rcases zaD hk with ⟨rfl, z, hl⟩ | ⟨n, z⟩
    · cases z
      rw [ziZ] at hc'
      cases hc'
      exact ⟨a, _, h', hW, zaL, rp.ext ext⟩
    · obtain ⟨b, ys, h1, h2, h3, h4⟩ := r'.own k y es z hc'
      refine ⟨b, ys, h1, h2, ?_, h4.ext ext⟩
      rw [zau (fun z' => by subst z'; exact n (r.inj i k x y d0 es b h z hc hc' h' h1))]
      exact h3
  · obtain ⟨_, _, z1, w1⟩ := old h1 c1
    obtain ⟨_, _, z2, w2⟩ := old h2 c2
    exact r.inj k l _ _ _ _ b z1 z2 w1 w2 h3 h4
  · by_cases z : b = a
    · subst z; rw [zaL]; exact fun z => nomatch z
    · rw [zau z]; exact r'.wf b w
  · rw [zau (fun z => n (by rw [z]; exact hO))]
    exact s b o q
  · obtain ⟨k, y, es, h1, hc', h2⟩ := z
    obtain ⟨_, _, z, w⟩ := old h1 hc'
    exact n ⟨k, _, _, z, w, h2⟩
  · by_cases e : i = j
    · subst e
      have hl : i < ρ.length := by
        obtain ⟨z, _⟩ := List.getElem?_eq_some_iff.mp h; exact z
      constructor
      · rintro ⟨d', z⟩
        rw [zbS hl] at z
        have z := Option.some.inj (Option.some.inj z)
        obtain ⟨d2, w⟩ := zj7.mp ⟨d', z⟩
        exact ⟨d2, by rw [h, w]⟩
      · rintro ⟨d2, z⟩
        rw [h] at z
        obtain ⟨d3, w⟩ := zj7 (d := d').mpr ⟨d2, Option.some.inj (Option.some.inj z)⟩
        exact ⟨d3, by rw [zbS hl, w]⟩
    · unfold zeG; rw [zap e]
end
theorem Ret.back {K : PySem.W.Frag} {W W1 W2 : Addr → Prop} {ρ ρ1 : LW.Env} {σ σ1 : St} {H H1 H2 : Hp} {r : SV} {v : V} (p : SPost K W ρ σ H W1 ρ1 σ1 H1) (h : Ret K W1 ρ1 σ1 W2 H2 r v) : Ret K W ρ σ W2 H2 r v := by
  cases h with
  | val h => exact .val h
  | new h n n' e r => exact .new h (fun ⟨w, z⟩ => n (p.wout _ w z)) (fun ⟨i, z1, z2⟩ => n' ⟨i, (p.io i).1.mpr z1, by rw [(p.io i).2 z1]; exact z2⟩) e r
theorem FlOk.back {K : PySem.W.Frag} {W W1 W2 : Addr → Prop} {ρ ρ1 ρ2 : LW.Env} {σ σ1 σ2 : St} {H H1 H2 : Hp} {D : Ends} {fl : Fl} (p : SPost K W ρ σ H W1 ρ1 σ1 H1) (h : FlOk K W ρ σ W2 ρ2 σ2 H2 D fl) : FlOk K W1 ρ1 σ1 W2 ρ2 σ2 H2 D fl := by
  cases fl with
  | rt r => exact fun v q => h v (q.back p)
  | _ => exact h
structure IS (X : Cx) (ex : LW.Env → Option (Fl × LW.Env)) (st : Stmt) : Prop where
  h : PS X st (tSs X.K ex)
structure ISs (X : Cx) (ex : LW.Env → Option (Fl × LW.Env)) (st : List Stmt) : Prop where
  h : PSs X st (tSs X.K ex)
variable {fa : Nat → List D → Option Ans} {st : Stmt} {sts : List Stmt} {s : S} {ss s1 s2 : Ss}
theorem zaO : ISs X (za4 fa fuel .nil) [] := .mk <| zfw.imp fun D σ H zz3 => by
  obtain ⟨W, ρ, x, hR, hx, q⟩ := zz3
  simp only [zkJ] at hx; cases hx; exact q W σ H (.same hR (.refl H))
theorem zat (h1 : IS X (exS fa fuel s) st) (h2 : ISs X (za4 fa fuel ss) sts) : ISs X (za4 fa fuel (.cons s ss)) (st :: sts) :=
  .mk <| (zcJ h1.h h2.h).imp fun D σ H zz3 => by
    obtain ⟨W, ρ, x, hR, hx, q⟩ := zz3
    simp only [ziS, jo1] at hx
    obtain ⟨⟨fl, ρ1⟩, e1, e2⟩ := hx
    refine ⟨W, ρ, (fl, ρ1), hR, e1, fun W1 σ1 H1 p1 => ?_⟩
    cases fl with
    | nx => exact ⟨W1, ρ1, x, p1.r, e2, fun W2 σ2 H2 p2 => FlOk.back p1 (q W2 σ2 H2 (p1.trans p2 hR))⟩
    | br => cases e2; exact q W1 σ1 H1 p1
    | ct => cases e2; exact q W1 σ1 H1 p1
    | rt r => cases e2; exact q W1 σ1 H1 p1
theorem zmR (he : IE X (prj fa) e ce) (hs : swapsWith e Option.none pos.line X.env = pure false := by rfl) : IS X (exS fa fuel (.expr ce)) (.Expr e pos) :=
  .mk <| (zfx he.h hs).imp fun D σ H zz3 => by
    obtain ⟨W, ρ, x, hR, hx, q⟩ := zz3
    simp only [zkF, jo2] at hx
    obtain ⟨r, e1, rfl⟩ := hx
    exact ⟨W, ρ, r, hR, e1, fun v H1 s1 _ => q W σ H1 (.same hR s1)⟩
theorem zhQ (i : Nat) {pos' : Pos} (hN : X.N.Nodup) (hi : X.N[i]? = some x) (hx : Loc X.env.scope x) (he : IE X (prj fa) e ce) (hs : swapsWith e (some (.Name x pos')) pos.line X.env = pure false := by rfl)
    (hf : X.fn x = true ∨ X.env.scope.names.lookup x = some .local := by first | exact .inl rfl | exact .inr rfl | assumption) : IS X (exS fa fuel (.asg i ce)) (.Assign [.Name x pos'] e pos) :=
  .mk <| (zg9 hN hi hx he.h hs hf).imp fun D σ H zz3 => by
    obtain ⟨W, ρ, y, hR, hy, q⟩ := zz3
    simp only [zmH, jo1] at hy
    obtain ⟨r, e1, e2⟩ := hy
    split at e2
    · cases e2
    · rename_i hl
      cases e2
      simp only [Bool.not_eq_true, Bool.or_eq_false_iff, Bool.not_eq_false'] at hl
      refine ⟨W, ρ, r, hR, e1, fun v H1 s1 h => ?_⟩
      cases h with
      | val h => exact q W _ H1 (zbu hR s1 h (zdX hl.2))
      | new h e r => exact q _ _ H1 (zeJ hR s1 h e r (zdX hl.2))
      | see h e r => simp [SV.lent] at hl
theorem zb2 (he : IE X (prj fa) e ce) : IS X (exS fa fuel (.ret ce)) (.Return (some e) pos) :=
  .mk <| (zg8 he.h).imp fun D σ H zz3 => by
    obtain ⟨W, ρ, y, hR, hy, q⟩ := zz3
    simp only [zmJ, jo1] at hy
    obtain ⟨r, e1, e2⟩ := hy
    split at e2
    · cases e2
    · rename_i hl
      cases e2
      refine ⟨W, ρ, r, hR, e1, fun v H1 s1 h => ?_⟩
      cases h with
      | val h => exact q W σ H1 (.same hR s1) v (.val h)
      | new h e r =>
        refine q _ σ H1 ⟨hR.add s1 h e, fun b o q _ => s1 b o q, (zc0 (W := W) s1 h).win, fun b w n => ⟨.inl w, n⟩, fun _ => ⟨.rfl, fun _ => rfl⟩⟩ _ (.new (.inr rfl) (fun z => hR.wf _ z.1 h) (fun ⟨i, ⟨d, z1⟩, z2⟩ => hR.noOwn h ⟨i, _, d, z1, rfl, z2⟩) e r)
      | see h e r => simp [SV.lent] at hl
theorem zdF (i : Nat) (hN : X.N[i]? = some x) (hv : Vis X.env.scope x) (hd : (x == ("__debug__" : Str)) = false := by decide) (hcd : (x == ("__classdict__" : Str)) = false := by decide) : IS X (exS fa fuel (.retV i)) (.Return (some (.Name x p)) pos) :=
  .mk <| (zg8 (zcP hN hv hd hcd)).imp fun D σ H zz3 => by
    obtain ⟨W, ρ, y, hR, hy, q⟩ := zz3
    simp only [zhC] at hy
    split at hy
    · rename_i d h
      cases hy
      obtain ⟨v, h1, h2⟩ := hR.val i d h
      exact ⟨v, h1, q W σ H (.same hR (.refl H)) v (.val h2)⟩
    · rename_i o ds h
      cases hy
      cases o with
      | false => exact absurd h (hR.nol i ds)
      | true =>
      obtain ⟨a, xs, h1, h2, h3, h4⟩ := hR.own i _ ds h rfl
      refine ⟨_, h1, q W σ H ?_ _ (.new h2 (fun z => z.2 ⟨i, _, ds, h, rfl, h1⟩) (fun zz0 => by
        obtain ⟨j, ⟨d', z1⟩, z2⟩ := zz0
        have := hR.inj i j _ _ ds d' a h z1 rfl rfl h1 z2
        subst this
        rw [h] at z1; cases z1) h3 h4)⟩
      have old : ∀ {k : Nat} {z : SV}, (ρ.set i Option.none)[k]? = some (some z) → ρ[k]? = some (some z) := fun {k z} q => by
        rcases zaD q with ⟨_, w, _⟩ | ⟨_, w⟩
        · cases w
        · exact w
      exact ⟨⟨fun k d hk => hR.val k d (old hk), fun k d hk => hR.nol k d (old hk), fun k o es hk => hR.own k o es (old hk), fun k l x y e1 e2 b z1 z2 => hR.inj k l x y e1 e2 b (old z1) (old z2), hR.wf, by simpa using hR.len⟩, fun b o q _ => q, fun b w => .inl w, fun b w n => ⟨w, fun ⟨k, x, es, z1, c, z2⟩ => n ⟨k, x, es, old z1, c, z2⟩⟩,
        fun k => ⟨⟨fun ⟨d', z⟩ => ⟨d', old z⟩, fun ⟨d', z⟩ => ⟨d', by rw [zap (fun e => by subst e; rw [h] at z; cases z)]; exact z⟩⟩, fun _ => rfl⟩⟩
    · cases hy
theorem zmS : IS X (exS fa fuel .stop) st := .mk <| ziE.imp fun D σ H zz3 => by
  obtain ⟨W, ρ, y, hR, hy, q⟩ := zz3
  simp only [zkI] at hy; cases hy
theorem zmT (hc : IT X (prj fa) c cc) (h1 : ISs X (za4 fa fuel s1) sts) (h2 : ISs X (za4 fa fuel s2) sts') : IS X (exS fa fuel (.ifs cc s1 s2)) (.If c sts sts' pos) :=
  .mk <| (zl5 hc.h h1.h h2.h).imp fun D σ H zz3 => by
    obtain ⟨W, ρ, y, hR, hy, q⟩ := zz3
    simp only [zmK, jo1] at hy
    obtain ⟨k, e1, e2⟩ := hy
    refine ⟨W, ρ, k, hR, e1, fun H1 w1 => ?_⟩
    have p1 := SPost.same hR w1
    show if k = true then tSs X.K (za4 fa fuel s1) D σ H1 else tSs X.K (za4 fa fuel s2) D σ H1
    cases k with
    | true => rw [if_pos rfl] at e2 ⊢; exact ⟨W, ρ, y, p1.r, e2, fun W2 σ2 H2 p2 => FlOk.back p1 (q W2 σ2 H2 (p1.trans p2 hR))⟩
    | false => rw [if_neg Bool.false_ne_true] at e2 ⊢; exact ⟨W, ρ, y, p1.r, e2, fun W2 σ2 H2 p2 => FlOk.back p1 (q W2 σ2 H2 (p1.trans p2 hR))⟩
theorem zqJ (i : Nat) {apos cpos : Pos} (hN : X.N[i]? = some x) (hv : Vis X.env.scope x) (he : IE X (prj fa) e ce) (hst : starEach [e] X.env = (false, eval e X.env) :: starEach [] X.env) (hd : (x == ("__debug__" : Str)) = false) (hcd : (x == ("__classdict__" : Str)) = false)
    (hs : swapsWith (.Call (.Attribute (.Name x p) "append" apos) [e] [] cpos) Option.none pos.line X.env = pure false := by rfl)
    (hbase : attributeBase (.Name x p) "append" X.env (eval (.Name x p) X.env) = eval (.Name x p) X.env := by rfl)
    (hline : (apos.endLine == cpos.line) = true := by rfl) :
    IS X (exS fa fuel (.app i ce)) (.Expr (.Call (.Attribute (.Name x p) "append" apos) [e] [] cpos) pos) :=
  .mk <| (zfx (zks PySem.F.plainAttrs_list PySem.F.slot_list_append PySem.F.type_list_append zeB (zcP hN hv hd hcd) (za3 he.v zbY hst) hbase (by rw [hst]; rfl) hline hst zak) hs).imp fun D σ H zz3 => by
    obtain ⟨W, ρ, y, hR, hy, q⟩ := zz3
    simp only [zj3] at hy
    split at hy
    · rename_i x h
      split at hy
      · rename_i ds hc
        simp only [jo1] at hy
        obtain ⟨r, e1, d, e2, e3⟩ := hy
        split at e3
        · rename_i hl
          cases e3
          obtain ⟨a, o, h1, h2, h3, h4⟩ := hR.own i _ _ h hc
          cases h4 with
          | lst h4 =>
          rename_i xs
          refine ⟨_, h1, .inl ⟨rfl, xs, .of h3⟩, ?_⟩
          refine ⟨W, ρ, r, hR, e1, fun v H1 w1 f => ?_⟩
          refine ⟨a, xs, v, rfl, rfl, w1 _ _ h3, ?_, ?_⟩
          · rw [← h4.length, ← zfE]; exact hl
          · exact q W σ _ (zi0 hR h hc h1 w1 (w1 _ _ h3) ⟨fun _ z => (nomatch z), fun _ _ z => (nomatch z)⟩ (.lst ((h4.ext (.same w1)).append (.cons (f.toD e2) .nil))))
        · cases e3
      · cases hy
    · cases hy
end
end L2.LW
set_option maxHeartbeats 4000000
namespace L2.LW
open PySem PySem.Spec PyProof.Rows
noncomputable def Yl (K : PySem.W.Frag) (J : It) (W : Addr → Prop) (H : Hp) (ds : List D) : Prop :=
  ∀ W' H', Ext W H W' H' → ∀ k : Nat, (k = ds.length → J.stop k H') ∧ ∀ d, ds[k]? = some d → J.go k H' ∧ ∀ x H'', J.yld k H' x H'' → H'' = H' ∧ Rep K W' H' d x
noncomputable def Ys (K : PySem.W.Frag) (J : It) (W : Addr → Prop) (H : Hp) (ds : List D) : Prop :=
  ∀ W' H', Same H H' → (∀ a, W' a → W a ∨ H a = Option.none) → ∀ k : Nat, (k = ds.length → J.stop k H') ∧ ∀ d, ds[k]? = some d → J.go k H' ∧ ∀ x H'', J.yld k H' x H'' → H'' = H' ∧ Rep K W' H' d x
theorem Ext.sameW {W W' : Addr → Prop} {H H' : Hp} (s : Same H H') (w : ∀ a, W' a → W a ∨ H a = Option.none) : Ext W H W' H' := ⟨fun a o h _ => s a o h, fun a xs h => s a _ h, fun a o u h => s a _ h, w⟩
section
variable {K : PySem.W.Frag} {W : Addr → Prop} {H : Hp} {a : Addr} {xs : List V} {ds : List D}
theorem zhR {H' : Hp} {W' : Addr → Prop} (hq : SqL K H' a xs) (rp : Reps K W' H' ds xs) (k : Nat) :
    (k = ds.length → (Itl K a).stop k H') ∧ ∀ d, ds[k]? = some d → (Itl K a).go k H' ∧ ∀ x H'', (Itl K a).yld k H' x H'' → H'' = H' ∧ Rep K W' H' d x := by
  refine ⟨fun e => ⟨xs, hq, by rw [← rp.length, e]; exact Nat.le_refl _⟩, fun d e => ?_⟩
  obtain ⟨v, e1, e2⟩ := rp.get e
  refine ⟨⟨xs, v, hq, e1⟩, fun x H'' ⟨z, y⟩ => ⟨z, ?_⟩⟩
  have := y xs hq
  rw [e1] at this
  cases this
  exact e2
theorem zj8 {H' : Hp} {W' : Addr → Prop} (hq : SqT K H' a xs) (rp : Reps K W' H' ds xs) (k : Nat) :
    (k = ds.length → (Itt K a).stop k H') ∧ ∀ d, ds[k]? = some d → (Itt K a).go k H' ∧ ∀ x H'', (Itt K a).yld k H' x H'' → H'' = H' ∧ Rep K W' H' d x := by
  refine ⟨fun e => ⟨xs, hq, by rw [← rp.length, e]; exact Nat.le_refl _⟩, fun d e => ?_⟩
  obtain ⟨v, e1, e2⟩ := rp.get e
  refine ⟨⟨xs, v, hq, e1⟩, fun x H'' ⟨z, y⟩ => ⟨z, ?_⟩⟩
  have := y xs hq
  rw [e1] at this
  cases this
  exact e2
theorem zgg {H' : Hp} {W' : Addr → Prop} {lo : Int} {n : Nat} (k : Nat) :
    (k = ((List.range n).map fun (k : Nat) => D.int (lo + (k : Int))).length → (Itr lo n).stop k H') ∧
      ∀ d, ((List.range n).map fun (k : Nat) => D.int (lo + (k : Int)))[k]? = some d → (Itr lo n).go k H' ∧ ∀ x H'', (Itr lo n).yld k H' x H'' → H'' = H' ∧ Rep K W' H' d x := by
  refine ⟨fun e => ?_, fun d e => ?_⟩
  · rw [List.length_map, List.length_range] at e
    exact Nat.le_of_eq e.symm
  · rw [List.getElem?_map, jo2] at e
    obtain ⟨j, e1, rfl⟩ := e
    obtain ⟨h1, h2⟩ := List.getElem?_eq_some_iff.mp e1
    rw [List.length_range] at h1
    rw [List.getElem_range] at h2
    subst h2
    exact ⟨h1, fun x H'' ⟨z, y⟩ => ⟨z, by rw [y]; exact .int _⟩⟩
theorem zkR {W' : Addr → Prop} {H' : Hp} (h : (¬ W a ∧ Rd H a (.lst xs)) ∨ zqC K a xs) (x : Ext W H W' H') : SqL K H' a xs := by
  rcases h with ⟨n, h | ⟨o, h⟩⟩ | h
  · exact .inl (.inl (x.keep _ _ h n))
  · exact .inl (.inr ⟨o, x.keep _ _ h n⟩)
  · exact .inr h
end
noncomputable def zsP (K : PySem.W.Frag) (tl : TE) : TI := fun σ H R => tl σ H fun x H1 => ∃ a, x = .ref a ∧ (((∃ xs, SqL K H1 a xs) ∧ R (Itl K a) H1) ∨ ((∃ xs, SqT K H1 a xs) ∧ R (Itt K a) H1))
section
variable {X : Cx} {tg l : Expr}
theorem zmU {tl : TE} (hl : PE X l tl) : PI X tg l (zsP X.K tl) := by
  intro pins s σ H R I h
  refine thn (hl pins s σ H _ I h) fun v s1 ⟨x, H1, I1, r1, q1⟩ => ?_
  obtain ⟨a, e, q⟩ := q1
  subst e
  cases r1
  rcases q with ⟨⟨xs, hq⟩, q⟩ | ⟨⟨xs, hq⟩, q⟩
  · obtain ⟨its, rv, p, hz⟩ := I1.list hq
    refine wpAny_pyIter_list p.isList ?_
    refine ⟨s1.heap.objs.size, [s1.heap.objs.size], _, _, H1, rfl, I1.kept (t' := s1.toks) fun b o e => Heap.get?_push_of_some _ e, zha a _, ⟨_, Heap.get?_push_size _ rfl, rfl, rfl⟩, fun b hb => ?_, q⟩
    have e : b = s1.heap.objs.size := by simpa using hb
    subst e
    exact I1.fpOk (Nat.le_refl _) (I1.hok.fresh (Nat.le_refl _))
  · obtain ⟨its, rv, p, hz⟩ := I1.tuple hq
    refine wpAny_pyIter_tuple (show s1.heap.IsTuple a its.toArray from p) ?_
    refine ⟨s1.heap.objs.size, [s1.heap.objs.size], _, _, H1, rfl, I1.kept (t' := s1.toks) fun b o e => Heap.get?_push_of_some _ e, zgz a _, ⟨_, Heap.get?_push_size _ rfl, rfl, rfl⟩, fun b hb => ?_, q⟩
    have e : b = s1.heap.objs.size := by simpa using hb
    subst e
    exact I1.fpOk (Nat.le_refl _) (I1.hok.fresh (Nat.le_refl _))
end
noncomputable def tI (K : PySem.W.Frag) (fn : Nat → List D → Option SV) (rng : Bool) (src : Es) : TI := fun σ H R0 => ∃ W ρ rs ds, R K W ρ σ H ∧ zbp fn src ρ = some rs ∧ zaJ rng rs = some ds ∧
  ∀ J H', Same H H' → Ys K J W H' ds → (rs.any SV.lent = false → Yl K J W H' ds) → R0 J H'
structure Src (X : Cx) (fn : Nat → List D → Option SV) (tg e : Expr) (rng : Bool) (src : Es) : Prop where
  h : PI X tg e (tI X.K fn rng src)
theorem _root_.L2.PI.imp {X : Cx} {tg l : Expr} {t t' : TI} (h : PI X tg l t) (i : ∀ σ H Q, t' σ H Q → t σ H Q) : PI X tg l t' := fun pins s σ H Q I q => h pins s σ H Q I (i σ H Q q)
section
variable {X : Cx} {fn : Nat → List D → Option SV} {fuel : Nat} {a b c e tg : Expr} {ca cb cc ce : E} {es : List Expr} {cs : Es} {pos p : Pos} {x : Str}
theorem zhS (he : IE X fn e ce) : Src X fn tg e false (.cons ce .nil) :=
  .mk <| (zmU he.v).imp fun σ H R0 zz3 => by
    obtain ⟨W, ρ, rs, ds, hR, h1, h2, q⟩ := zz3
    simp only [zba, za1, jo1, jo2] at h1
    obtain ⟨r, e1, rs', e3, rfl⟩ := h1
    cases e3
    simp only [zaJ] at h2
    refine ⟨W, ρ, r, hR, e1, fun v H1 s1 f => ?_⟩
    unfold zfC at h2
    split at h2
    · rename_i l hd
      cases h2
      have hs := f.sees
      rw [hd] at hs
      obtain ⟨a, xs, rfl, hq, rp⟩ := hs.tupH
      refine ⟨a, rfl, .inr ⟨⟨xs, .of hq⟩, q _ H1 s1 (fun W' H' s w k => zj8 (.of (s _ _ hq)) (rp.ext (.sameW s w)) k) fun _ W' H' x k => zj8 (.of (x.tup _ _ hq)) (rp.ext x) k⟩⟩
    · rename_i l hd
      cases h2
      have hs := f.sees
      rw [hd] at hs
      obtain ⟨a, xs, rfl, hq, rp⟩ := hs.lst
      refine ⟨a, rfl, .inl ⟨⟨xs, hq⟩, q _ H1 s1 (fun W' H' s w k => zhR (s.seq hq) (rp.ext (.sameW s w)) k) fun hl W' H' x k => ?_⟩⟩
      have hl' : r.lent = false := by simpa using hl
      cases f with
      | val h =>
        change _ = D.lst _ at hd
        subst hd
        cases h with
        | lst h r' => exact zhR (zkR h x) (r'.ext x) k
      | lis h e r' =>
        change _ = D.lst _ at hd
        subst hd
        cases r' with
        | lst r' => exact zhR (.of (x.keep _ _ e h)) (r'.ext x) k
      | see h e r' => simp [SV.lent] at hl'
    · cases h2
theorem zb3 (hg : Gl X "range") (hm : X.mg "range" = Option.none) (ha : IA X fn [a] (.cons ca .nil)) (hs : starEach [a] X.env = (false, eval a X.env) :: starEach [] X.env) : Src X fn tg (.Call (.Name "range" p) [a] [] pos) true (.cons ca .nil) :=
  .mk <| (zhb hg hm ha.h hs).imp fun σ H R0 zz3 => by
    obtain ⟨W, ρ, rs, ds, hR, h1, h2, q⟩ := zz3
    refine ⟨W, ρ, rs, hR, h1, fun vs H1 s1 f => ?_⟩
    simp only [zba, za1, jo1, jo2] at h1
    obtain ⟨r, e1, rs', e3, rfl⟩ := h1
    cases e3
    obtain ⟨v, rfl, g⟩ : ∃ v, vs = [v] ∧ Frz X.K W H1 r v := by
      cases f with
      | cons f t => cases t; exact ⟨_, rfl, f⟩
    clear f
    cases g with
    | val g =>
      cases g with
      | int n =>
        simp only [zaJ] at h2
        split at h2
        · rename_i hn
          cases h2
          exact ⟨n, rfl, hn.1, hn.2, q _ H1 s1 (fun W' H' s w k => zgg k) fun _ W' H' x k => zgg k⟩
        · cases h2
      | _ => simp [zaJ] at h2
    | _ => simp [zaJ] at h2
theorem zi1 (hg : Gl X "range") (hm : X.mg "range" = Option.none) (ha : IA X fn [a, b] (.cons ca (.cons cb .nil))) (hs : starEach [a, b] X.env = (false, eval a X.env) :: starEach [b] X.env) (hs2 : starEach [b] X.env = (false, eval b X.env) :: starEach [] X.env) :
    Src X fn tg (.Call (.Name "range" p) [a, b] [] pos) true (.cons ca (.cons cb .nil)) :=
  .mk <| (zhc hg hm ha.h (by rw [hs, hs2]; rfl) hs2).imp fun σ H R0 zz3 => by
    obtain ⟨W, ρ, rs, ds, hR, h1, h2, q⟩ := zz3
    refine ⟨W, ρ, rs, hR, h1, fun vs H1 s1 f => ?_⟩
    simp only [zba, za1, jo1, jo2] at h1
    obtain ⟨r, e1, rs', ⟨r2, e2, rs'', e3, rfl⟩, rfl⟩ := h1
    cases e3
    obtain ⟨v, v2, rfl, g, f2⟩ : ∃ v v2, vs = [v, v2] ∧ Frz X.K W H1 r v ∧ Frz X.K W H1 r2 v2 := by
      cases f with
      | cons f t => cases t with
        | cons f' t => cases t; exact ⟨_, _, rfl, f, f'⟩
    clear f
    cases g with
    | val g =>
      cases f2 with
      | val f2 =>
        cases g with
        | int n =>
          cases f2 with
          | int m =>
            simp only [zaJ] at h2
            split at h2
            · rename_i hn
              cases h2
              exact ⟨n, m, rfl, ⟨hn.1.1, hn.1.2, hn.2.1, hn.2.2⟩, q _ H1 s1 (fun W' H' s w k => zgg k) fun _ W' H' x k => zgg k⟩
            · cases h2
          | _ => simp [zaJ] at h2
        | _ => simp [zaJ] at h2
      | _ => simp [zaJ] at h2
    | _ => simp [zaJ] at h2
theorem zeK {α : Type} {l : List α} {k : Nat} {d : α} (h : l[k]? = some d) : l.drop k = d :: l.drop (k + 1) := by
  obtain ⟨h1, h2⟩ := List.getElem?_eq_some_iff.mp h
  rw [List.drop_eq_getElem_cons h1, h2]
variable {fa : Nat → List D → Option Ans} {sts : List Stmt} {ss : Ss}
end
theorem zeL (io : List Nat) : ∀ (ds : List D) (k i : Nat), (zbH io k ds)[i]? = (ds[i]?).map fun d => some (if io.contains (k + i) then SV.io d else .val d)
  | [], k, i => by simp [zbH]
  | d :: r, k, 0 => by simp [zbH]
  | d :: r, k, i + 1 => by
    rw [zbH, List.getElem?_cons_succ, zeL io r (k + 1) i, List.getElem?_cons_succ]
    have : k + 1 + i = k + (i + 1) := by omega
    rw [this]
theorem zbv (io : List Nat) : ∀ (ds : List D) (k : Nat), (zbH io k ds).length = ds.length
  | [], k => rfl
  | d :: r, k => by simp [zbH, zbv io r (k + 1)]
theorem zhT {io : List Nat} {ds : List D} {n : Nat} {i : Nat} {x : SV} (h : (zbH io 0 ds ++ List.replicate n Option.none)[i]? = some (some x)) :
    ∃ d, ds[i]? = some d ∧ x = if io.contains i then SV.io d else .val d := by
  by_cases hi : i < ds.length
  · rw [List.getElem?_append_left (by rw [zbv]; exact hi), zeL, jo2] at h
    obtain ⟨d, e1, e2⟩ := h
    rw [Nat.zero_add] at e2
    exact ⟨d, e1, (Option.some.inj e2).symm⟩
  · rw [List.getElem?_append_right (by rw [zbv]; omega)] at h
    rw [List.getElem?_replicate] at h
    split at h <;> cases h
theorem zbj {N : List Str} {vs : List V} {i : Nat} {v : V} (h : vs[i]? = some v) : (zbq N vs)[i]? = some (some v) := by
  have hi : i < vs.length := (List.getElem?_eq_some_iff.mp h).1
  unfold zbq
  rw [List.getElem?_append_left (by simpa using hi), List.getElem?_map, h]
  rfl
theorem zfI {K : PySem.W.Frag} {W W' : Addr → Prop} {H' : Hp} {ρ' : LW.Env} {σ' : St} {vs : List V} (hR : R K W' ρ' σ' H') (sub : ∀ b, W b → W' b) : ∀ {io : List Nat} {outs : List D}, zdD ρ' io = some outs → (∀ k ∈ io, zeG ρ' k → ∃ a, σ'[k]? = some (some (.ref a)) ∧ vs[k]? = some (.ref a)) → zr3 K W H' io vs outs
  | [], outs, e, _ => by simp only [zdD] at e; cases e; exact .nil
  | k :: r, outs, e, hs => by
    simp only [zdD] at e
    split at e
    · rename_i d h
      rw [jo2] at e
      obtain ⟨l, e1, rfl⟩ := e
      obtain ⟨a, h1, h2⟩ := hs k List.mem_cons_self ⟨d, h⟩
      obtain ⟨a', o, h3, _, h5, h6⟩ := hR.own k _ d h rfl
      rw [h1] at h3; cases h3
      exact .cons ⟨a, o, h2, h5, h6.less sub⟩ (zfI hR sub e1 fun j hj => hs j (List.mem_cons_of_mem _ hj))
    · cases e
theorem zcE {Pg : Program} {w : World} {K : PySem.W.Frag} {mg : Str → Option Value} {base : Heap} {x qual : Str} {st : Stmt} {f : Addr} {fd : FuncData} {N ps : List Str} {k n i : Nat} {P : Nat → Option Fn} {fuel : Nat} {F0 : Fn} {io : List Nat}
    (F : Fun K x qual st f fd) (S : FnScope N ps (zaa st)) (hP : P i = some F0) (hnp : F0.np = ps.length) (hnl : F0.nl = N.length) (hio : F0.io = io) (hiop : io.all (fun k => decide (k < F0.np)) = true) (hxb : F0.xb = Option.none)
    (hbody : ∀ (cdv : Value) (A : Around) (outer : List PySem.Env) (s : Shared) (H : Hp) (E : XK), Room k (A.deeper (envOfC qual (zaa st) s.heap.objs.size f cdv)) →
      ISs (zbo CX0 Pg w K mg base N qual (zaa st) f cdv A outer s H E).nox (za4 (zah P fuel n) fuel F0.body) (zae st)) :
    FnOk Pg w K mg base CX0 (k + 1) f fd ps (spA K (zah P fuel (n + 1)) i io) := by
  subst hio
  have dec : ∀ {ds : List D} {r : Ans}, zah P fuel (n + 1) i ds = some r → ds.length = F0.np ∧ zmz F0.io (za4 (zah P fuel n) fuel F0.body (zbH F0.io 0 ds ++ List.replicate (F0.nl - F0.np) Option.none)) = some r := fun {ds r} h => by
    rw [zah, hP] at h
    simp only [Option.bind_some, hxb] at h
    split at h
    · exact ⟨by assumption, h⟩
    · cases h
  refine F.ok S (fun vs H Q E h => ?_) (fun cdv A outer s H vs Q E hr h => ⟨_, (hbody cdv A outer s H E hr).h, ?_⟩)
  · obtain ⟨W, ds, r, outs, wf, rp, e, _⟩ := h
    rw [← rp.len, (dec e).1, hnp]
  · obtain ⟨W, ds, r, outs, wf, rp, e, q⟩ := h
    obtain ⟨hl, he⟩ := dec e
    have hlv := rp.len
    have hplN : ps.length ≤ N.length := by have := congrArg List.length S.pre; rw [List.length_take] at this; omega
    generalize hρ : zbH F0.io 0 ds ++ List.replicate (F0.nl - F0.np) Option.none = ρ at he
    have at_ : ∀ {j : Nat} {x : SV}, ρ[j]? = some (some x) → ∃ d, ds[j]? = some d ∧ x = if F0.io.contains j then SV.io d else .val d := fun {j x} h => by rw [← hρ] at h; exact zhT h
    have own_io : ∀ a, Own ρ (zbq N vs) a → ioV F0.io vs a := fun a zz1 => by
      obtain ⟨j, x, d, h1, hc, h2⟩ := zz1
      obtain ⟨d', e1, e2⟩ := at_ h1
      split at e2
      · rename_i hj
        have hj : j ∈ F0.io := by simpa using hj
        obtain ⟨b, o, h3, _⟩ := rp.obj j d' e1 hj
        rw [zbj h3] at h2
        cases h2
        exact ⟨j, hj, h3⟩
      · subst e2; cases hc
    have hR : R K W ρ (zbq N vs) H := by
      refine ⟨fun j d h => ?_, fun j d h => ?_, fun j x d h hc => ?_, fun j k x y d e a h1 h2 c1 c2 h3 h4 => ?_, wf, ?_⟩
      · obtain ⟨d', e1, e2⟩ := at_ h
        split at e2
        · cases e2
        · rename_i hj
          cases e2
          obtain ⟨v, h1, h2⟩ := rp.val j d e1 (by simpa using hj)
          exact ⟨v, zbj h1, h2⟩
      · obtain ⟨d', e1, e2⟩ := at_ h
        split at e2 <;> cases e2
      · obtain ⟨d', e1, e2⟩ := at_ h
        split at e2
        · rename_i hj
          subst e2; cases hc
          obtain ⟨b, o, h3, h4, h5, h6⟩ := rp.obj j d e1 (by simpa using hj)
          exact ⟨b, o, zbj h3, h4, h5, h6⟩
        · subst e2; cases hc
      · obtain ⟨d1, e1, e2⟩ := at_ h1
        obtain ⟨d2, e3, e4⟩ := at_ h2
        split at e2
        · rename_i hj
          split at e4
          · rename_i hk
            have hj : j ∈ F0.io := by simpa using hj
            have hk : k ∈ F0.io := by simpa using hk
            obtain ⟨b, o, z1, _⟩ := rp.obj j d1 e1 hj
            obtain ⟨b', o', z2, _⟩ := rp.obj k d2 e3 hk
            rw [zbj z1] at h3; cases h3
            rw [zbj z2] at h4; cases h4
            exact rp.inj j k _ hj hk z1 z2
          · subst e4; cases c2
        · subst e2; cases c1
      · rw [← hρ]
        unfold zbq
        rw [List.length_append, List.length_append, zbv, List.length_map, List.length_replicate, List.length_replicate]
        omega
    cases hx : za4 (zah P fuel n) fuel F0.body ρ with
    | none => rw [hx] at he; cases he
    | some y =>
      rw [hx] at he
      obtain ⟨fl, ρ'⟩ := y
      refine ⟨W, ρ, (fl, ρ'), hR, hx, fun W' σ' H' p => ?_⟩
      have kp : ∀ a o, H a = some o → ¬ ioV F0.io vs a → H' a = some o := fun b o h n => p.keep b o h fun z => n (own_io b z)
      have io_at : ∀ k ∈ F0.io, zeG ρ' k → ∃ a, σ'[k]? = some (some (.ref a)) ∧ vs[k]? = some (.ref a) := fun j hj z => by
        have z0 := (p.io j).1.mp z
        obtain ⟨d0, z1⟩ := z0
        obtain ⟨d', e1, e2⟩ := at_ z1
        obtain ⟨b, o, h3, _⟩ := rp.obj j d' e1 hj
        exact ⟨b, by rw [(p.io j).2 ⟨d0, z1⟩, zbj h3], h3⟩
      have sub : ∀ b, W b → W' b := fun b w => by
        by_cases hb : Own ρ (zbq N vs) b
        · obtain ⟨j, x, d, h1, hc, h2⟩ := hb
          obtain ⟨d', e1, e2⟩ := at_ h1
          split at e2
          · subst e2
            obtain ⟨d2, z⟩ := (p.io j).1.mpr ⟨d', h1⟩
            obtain ⟨a', o, h3, h4, _⟩ := p.r.own j _ d2 z rfl
            rw [(p.io j).2 ⟨d', h1⟩, h2] at h3
            cases h3
            exact h4
          · subst e2; cases hc
        · exact (p.wout b w hb).1
      cases fl with
      | br => cases he
      | ct => cases he
      | nx =>
        simp only [zmz, jo2] at he
        obtain ⟨l, e1, e2⟩ := he
        cases e2
        exact q _ H' kp (zfI p.r sub e1 io_at) (.val .non)
      | rt r' =>
        simp only [zmz, jo2] at he
        obtain ⟨l, e1, e2⟩ := he
        cases e2
        intro v hv
        have ho := zfI p.r sub e1 io_at
        cases hv with
        | val h => exact q v H' kp ho (.val (h.less sub))
        | new h nn n' eL rr =>
          have ha := (p.win _ h).resolve_left fun w => nn ⟨w, fun zz0 => by
            obtain ⟨j, x, d, h1, hc, h2⟩ := zz0
            obtain ⟨d', e1, e2⟩ := at_ h1
            split at e2
            · subst e2; exact n' ⟨j, ⟨d', h1⟩, h2⟩
            · subst e2; cases hc⟩
          refine q _ H' kp ho (.new ha eL (rr.less fun b w => ?_))
          rcases w with w | rfl
          · exact sub b w
          · exact h
end L2.LW
set_option maxHeartbeats 4000000
namespace L2.LW
open PySem PySem.Spec PyProof.Rows
noncomputable def zft (env : PySem.Env) : List (Str × NameKind) → List (Str × Addr) → List (Str × Addr)
  | [], acc => acc
  | (n, k) :: r, acc => if k == .free then zft env r ((n, (env.cells.lookup n).getD 0) :: acc) else zft env r acc
theorem zdG (env : PySem.Env) : ∀ (names : List (Str × NameKind)) (acc : List (Str × Addr)), (∀ y ∈ names, y.2 = .free → (env.cells.lookup y.1).isSome = true) →
    (forIn names acc fun (x : Str × NameKind) (cs : List (Str × Addr)) => (if (x.2 == NameKind.free) = true then (do let c ← cellOf env x.1; pure (ForInStep.yield ((x.1, c) :: cs)) : Sem (ForInStep (List (Str × Addr)))) else pure (ForInStep.yield cs))) = (pure (zft env names acc) : Sem (List (Str × Addr)))
  | [], acc, _ => rfl
  | (n, k) :: r, acc, h => by
    have ih := fun acc => zdG env r acc fun y hy => h y (List.mem_cons_of_mem _ hy)
    rw [List.forIn_cons]
    by_cases hk : (k == NameKind.free) = true
    · have hs := h (n, k) List.mem_cons_self (by simpa using hk)
      obtain ⟨c, hc⟩ := Option.isSome_iff_exists.mp hs
      have hc : env.cells.lookup n = some c := hc
      simp only [hk, if_true, cellOf, hc, zft, Option.getD_some]
      show (forIn r ((n, c) :: acc) _ : Sem _) = _
      exact ih _
    · simp only [hk, if_false, zft]
      show (forIn r acc _ : Sem _) = _
      exact ih _
theorem zc1 {scope : Scope} {env : PySem.Env} (h : ∀ y ∈ scope.names, y.2 = .free → (env.cells.lookup y.1).isSome = true) : closureFor scope env = pure (zft env scope.names []) := by
  have key : closureFor scope env = ((forIn scope.names ([] : List (Str × Addr)) fun (x : Str × NameKind) (cs : List (Str × Addr)) =>
    (if (x.2 == NameKind.free) = true then (do let c ← cellOf env x.1; pure (ForInStep.yield ((x.1, c) :: cs)) : Sem (ForInStep (List (Str × Addr)))) else pure (ForInStep.yield cs))) >>= fun cs => pure cs) := rfl
  rw [key, zdG env scope.names [] h]
  rfl
theorem zbk {env : PySem.Env} {y : Str} {c : Addr} : ∀ {names : List (Str × NameKind)} {acc : List (Str × Addr)}, (∀ z ∈ names, z.2 = .free → (env.cells.lookup z.1).isSome = true) → (zft env names acc).lookup y = some c →
    acc.lookup y = some c ∨ env.cells.lookup y = some c
  | [], _, _, e => .inl e
  | (n, k) :: r, acc, h, e => by
    unfold zft at e
    split at e
    · rename_i hk
      rcases zbk (fun z hz => h z (List.mem_cons_of_mem _ hz)) e with q | q
      · rw [List.lookup_cons] at q
        split at q
        · rename_i hy
          have hy : y = n := by simpa using hy
          subst hy
          obtain ⟨c', hc⟩ := Option.isSome_iff_exists.mp (h (y, k) List.mem_cons_self (by simpa using hk))
          have hc : env.cells.lookup y = some c' := hc
          rw [hc] at q
          cases q
          exact .inr hc
        · exact .inl q
      · exact .inr q
    · exact zbk (fun z hz => h z (List.mem_cons_of_mem _ hz)) e
theorem zd6 {env : PySem.Env} {y : Str} : ∀ {names : List (Str × NameKind)} {acc : List (Str × Addr)}, ((acc.lookup y).isSome = true ∨ (y, NameKind.free) ∈ names) → ((zft env names acc).lookup y).isSome = true
  | [], acc, h => by
    rcases h with h | h
    · exact h
    · cases h
  | (n, k) :: r, acc, h => by
    unfold zft
    split
    · rename_i hk
      refine zd6 ?_
      by_cases e : y = n
      · subst e; exact .inl (by simp)
      · have hb : (y == n) = false := by simpa using e
        rcases h with h | h
        · exact .inl (by rw [List.lookup_cons, hb]; exact h)
        · rcases List.mem_cons.mp h with z | z
          · cases z; exact absurd rfl e
          · exact .inr z
    · rename_i hk
      refine zd6 ?_
      rcases h with h | h
      · exact .inl h
      · rcases List.mem_cons.mp h with z | z
        · cases z; exact absurd rfl hk
        · exact .inr z
noncomputable def zj9 (x : Str) (N : List Str) : List Str := N.map fun y => if y = x then ("" : Str) else y
noncomputable def zbJ (scope : Scope) (x : Str) (c : Addr) (cl : List (Str × Addr)) : List (Str × Addr) := if scope.names.lookup x = some .cell then (x, c) :: cl else cl
noncomputable def zaY (X : Cx) (scope : Scope) (x : Str) (s₃ : Shared) (H₃ : Hp) (fp : List Addr) (pins : List (Addr × Obj)) : Cx :=
  { X with N := x :: zj9 x X.N, s₀ := s₃, H₀ := H₃, env := compEnvC scope (zbJ scope x (s₃.heap.objs.size + 1) (zft X.env scope.names [])) s₃.heap.objs.size X.env, outer := X.stack, stack := X.stack, ex := fp, fn := fun y => decide (y = x) && decide (scope.names.lookup x = some .cell), pn := X.pn ++ pins, xe := fun _ _ => False }
structure CompSc (X : Cx) (scope : Scope) (x : Str) : Prop where
  kind : scope.kind = .function
  loc : scope.names.lookup x = some .local ∨ scope.names.lookup x = some .cell
  names : ∀ y ∈ scope.names, y.2 = .local → scope.names.lookup y.1 = some .local
  cell1 : scope.names.filter (fun y => y.2 == .cell) = if scope.names.lookup x = some .cell then [(x, .cell)] else []
  free : ∀ y ∈ scope.names, y.2 = .free → X.env.scope.names.lookup y.1 = some .cell ∨ X.env.scope.names.lookup y.1 = some .free
  own : ∀ y ∈ X.N, scope.names.lookup y = some .local → y = x
  none : scope.names.lookup ("" : Str) = Option.none
  nd : (x :: zj9 x X.N).Nodup
theorem zbE {y : Str} {k : NameKind} : ∀ {l : List (Str × NameKind)}, l.lookup y = some k → (y, k) ∈ l
  | [], h => by cases h
  | (n, j) :: r, h => by
    rw [List.lookup_cons] at h
    split at h
    · rename_i e
      have e : y = n := by simpa using e
      cases h; subst e
      exact List.mem_cons_self
    · exact List.mem_cons_of_mem _ (zbE h)
theorem zaK {env : PySem.Env} {y : Str} {k : NameKind} : ∀ {names : List (Str × NameKind)},
    (names.map fun (z : Str × NameKind) => match z with | (n, k) => if (k == NameKind.free && env.scope.kind == .function && env.kindOf n == some .cell) = true then (n, NameKind.cell) else (n, k)).lookup y = some k →
    names.lookup y = some k ∨ (k = .cell ∧ names.lookup y = some .free)
  | [], h => by cases h
  | (n, j) :: r, h => by
    rw [List.map_cons, List.lookup_cons] at h
    rw [List.lookup_cons]
    by_cases hc : (j == NameKind.free && env.scope.kind == .function && env.kindOf n == some .cell) = true
    · simp only [hc, if_true] at h
      cases e : y == n with
      | true =>
        rw [e] at h
        cases h
        have hj : j = .free := by
          simp only [Bool.and_eq_true] at hc
          simpa using hc.1.1
        exact .inr ⟨rfl, by rw [hj]⟩
      | false => rw [e] at h; exact zaK h
    · simp only [hc, Bool.false_eq_true, if_false] at h
      cases e : y == n with
      | true => rw [e] at h; exact .inl h
      | false => rw [e] at h; exact zaK h
section
variable {X : Cx} {scope : Scope} {x : Str} {s₃ : Shared} {H₃ : Hp} {fp : List Addr} {pins : List (Addr × Obj)} {σ : St}
theorem CompSc.onlyC (S : CompSc X scope x) {y : Str} (h : scope.names.lookup y = some .cell) : y = x ∧ scope.names.lookup x = some .cell := by
  have hm : (y, NameKind.cell) ∈ scope.names.filter (fun y => y.2 == .cell) := List.mem_filter.mpr ⟨zbE h, rfl⟩
  rw [S.cell1] at hm
  split at hm
  · simp at hm; subst hm; exact ⟨rfl, h⟩
  · cases hm
theorem zb4 {x : Str} : ∀ (names : List (Str × NameKind)) (a : Nat) (acc : List (Str × Addr)) (h : Heap), names.filter (fun y => y.2 == .cell) = [(x, .cell)] → cellsFrom a names acc = (x, a) :: acc ∧ pushCells h names = h.push { cls := .type "cell", data := .cell Option.none }
  | [], _, _, _, e => by cases e
  | (n, k) :: r, a, acc, h, e => by
    have none_ : ∀ (names : List (Str × NameKind)) (a : Nat) (acc : List (Str × Addr)) (h : Heap), names.filter (fun y => y.2 == .cell) = [] → cellsFrom a names acc = acc ∧ pushCells h names = h := by
      intro names
      induction names with
      | nil => intro a acc h _; exact ⟨rfl, rfl⟩
      | cons y r ih =>
        intro a acc h e
        obtain ⟨n, k⟩ := y
        rw [List.filter_cons] at e
        split at e
        · cases e
        · rename_i hk
          have hk : (k == NameKind.cell) = false := by simpa using hk
          unfold cellsFrom pushCells
          rw [hk]
          exact ih a acc h e
    rw [List.filter_cons] at e
    split at e
    · rename_i hk
      injection e with e1 e2
      cases e1
      unfold cellsFrom pushCells
      simp only [beq_self_eq_true, if_true]
      exact none_ r _ _ _ e2
    · rename_i hk
      have hk : (k == NameKind.cell) = false := by simpa using hk
      unfold cellsFrom pushCells
      rw [hk]
      exact zb4 r a acc h e
theorem zbK : ∀ (names : List (Str × NameKind)) (a : Nat) (acc : List (Str × Addr)) (h : Heap), names.filter (fun y => y.2 == .cell) = [] → cellsFrom a names acc = acc ∧ pushCells h names = h
  | [], _, _, _, _ => ⟨rfl, rfl⟩
  | (n, k) :: r, a, acc, h, e => by
    rw [List.filter_cons] at e
    split at e
    · cases e
    · rename_i hk
      have hk : (k == NameKind.cell) = false := by simpa using hk
      unfold cellsFrom pushCells
      rw [hk]
      exact zbK r a acc h e
theorem zfJ {M : Model} {A : Around} {E : Value → Shared → Prop} {s : Shared} {globals : Addr} {cl : List (Str × Addr)} {qual : Str} {env : PySem.Env} {Q : PySem.Env → Shared → Prop} (S : CompSc X scope x)
    (h : ∀ h₁, h₁.Ns s.heap.objs.size (fun _ => Option.none) → (∀ b o, s.heap.get? b = some o → h₁.get? b = some o) → (scope.names.lookup x = some .cell → h₁.IsCell (s.heap.objs.size + 1) Option.none) →
      Q (newEnv scope s.heap.objs.size globals (zbJ scope x (s.heap.objs.size + 1) cl) qual Option.none .none (some env) builtinsNs) { s with heap := h₁ }) :
    wpAny M A (newFunctionEnv scope globals cl [] qual Option.none .none (some env)) Q E s := by
  simp only [newFunctionEnv, Option.isSome_some, if_true]
  refine wpAny_bind (wpAny_alloc ?_)
  refine wpAny_bind (wpAny_layCells _ (fun name kind cells => by cases hkc : kind == NameKind.cell <;> simp [hkc]) _ _ _ _ ?_)
  rw [List.forIn_nil]
  refine wpAny_bind (wpAny_pure (wpAny_pure ?_))
  rw [show ({ s with heap := s.heap.push { cls := .type "dict", data := .dict #[] } } : Shared).heap.objs.size = s.heap.objs.size + 1 from Heap.size_push ..]
  have hc := S.cell1
  by_cases hx : scope.names.lookup x = some .cell
  · rw [if_pos hx] at hc
    obtain ⟨e1, e2⟩ := zb4 (x := x) scope.names (s.heap.objs.size + 1) cl (s.heap.push { cls := .type "dict", data := .dict #[] }) hc
    have h' := h (pushCells (s.heap.push { cls := .type "dict", data := .dict #[] }) scope.names) ((Heap.Ns.new s.heap (.type "dict")).keeps (pushCells_keeps _ _)) (fun b o e => pushCells_keeps _ _ b o (Heap.get?_push_of_some _ e)) (fun _ => by
      rw [e2]
      have : (s.heap.push { cls := .type "dict", data := .dict #[] }).objs.size = s.heap.objs.size + 1 := Heap.size_push ..
      rw [← this]
      exact ⟨_, Heap.get?_push_size _ rfl, rfl⟩)
    rw [e1]
    unfold zbJ at h'
    rw [if_pos hx] at h'
    exact h'
  · rw [if_neg hx] at hc
    obtain ⟨e1, e2⟩ := zbK scope.names (s.heap.objs.size + 1) cl (s.heap.push { cls := .type "dict", data := .dict #[] }) hc
    have h' := h (pushCells (s.heap.push { cls := .type "dict", data := .dict #[] }) scope.names) ((Heap.Ns.new s.heap (.type "dict")).keeps (pushCells_keeps _ _)) (fun b o e => pushCells_keeps _ _ b o (Heap.get?_push_of_some _ e)) (fun z => absurd z hx)
    rw [e1]
    unfold zbJ at h'
    rw [if_neg hx] at h'
    exact h'
theorem CompSc.cells (S : CompSc X scope x) (ok : X.Ok) : ∀ y ∈ scope.names, y.2 = .free → (X.env.cells.lookup y.1).isSome = true := fun y hy hk => by
  obtain ⟨c, hc⟩ := ok.has y.1 (S.free y hy hk)
  rw [hc]; rfl
theorem CompSc.look (S : CompSc X scope x) (ok : X.Ok) {y : Str} {c : Addr} (h : (zaY X scope x s₃ H₃ fp pins).env.cells.lookup y = some c) :
    (y = x ∧ scope.names.lookup x = some .cell ∧ c = s₃.heap.objs.size + 1) ∨ ((y ≠ x ∨ scope.names.lookup x ≠ some .cell) ∧ X.env.cells.lookup y = some c) := by
  have h : (zbJ scope x (s₃.heap.objs.size + 1) (zft X.env scope.names [])).lookup y = some c := h
  have old : (zft X.env scope.names []).lookup y = some c → X.env.cells.lookup y = some c := fun h => by
    rcases zbk (S.cells ok) h with q | q
    · cases q
    · exact q
  unfold zbJ at h
  split at h
  · rename_i hc
    rw [List.lookup_cons] at h
    split at h
    · rename_i e
      cases h
      exact .inl ⟨by simpa using e, hc, rfl⟩
    · rename_i e
      exact .inr ⟨.inl (by simpa using e), old h⟩
  · rename_i hc
    exact .inr ⟨.inr hc, old h⟩
theorem CompSc.kindOf (S : CompSc X scope x) {y : Str} (h : (zaY X scope x s₃ H₃ fp pins).env.kindOf y = some .cell ∨ (zaY X scope x s₃ H₃ fp pins).env.kindOf y = some .free) : scope.names.lookup y = some .free ∨ (y = x ∧ scope.names.lookup x = some .cell) := by
  rcases h with h | h
  · rcases zaK (show _ = _ from h) with q | ⟨_, q⟩
    · exact .inr (S.onlyC q)
    · exact .inl q
  · rcases zaK (show _ = _ from h) with q | ⟨z, q⟩
    · exact .inl q
    · cases z
theorem CompSc.has (S : CompSc X scope x) {y : Str} (h : scope.names.lookup y = some .free) : ∃ c, (zaY X scope x s₃ H₃ fp pins).env.cells.lookup y = some c ∧ (zft X.env scope.names []).lookup y = some c := by
  obtain ⟨c, hc⟩ := Option.isSome_iff_exists.mp (zd6 (env := X.env) (names := scope.names) (acc := []) (y := y) (.inr (zbE h)))
  refine ⟨c, ?_, hc⟩
  show (zbJ scope x (s₃.heap.objs.size + 1) (zft X.env scope.names [])).lookup y = some c
  unfold zbJ
  split
  · rename_i hx
    have : (y == x) = false := by
      cases e : y == x with
      | false => rfl
      | true => have e : y = x := by simpa using e
                subst e; rw [h] at hx; cases hx
    rw [List.lookup_cons, this]
    exact hc
  · exact hc
theorem zbw {env : PySem.Env} {y : Str} : ∀ {names : List (Str × NameKind)}, names.lookup y = some .cell →
    (names.map fun (z : Str × NameKind) => match z with | (n, k) => if (k == NameKind.free && env.scope.kind == .function && env.kindOf n == some .cell) = true then (n, NameKind.cell) else (n, k)).lookup y = some .cell
  | [], h => by cases h
  | (n, j) :: r, h => by
    rw [List.lookup_cons] at h
    rw [List.map_cons, List.lookup_cons]
    by_cases hc : (j == NameKind.free && env.scope.kind == .function && env.kindOf n == some .cell) = true
    · simp only [hc, if_true]
      cases e : y == n with
      | true => rfl
      | false => rw [e] at h; exact zbw h
    · simp only [hc, Bool.false_eq_true, if_false]
      cases e : y == n with
      | true => rw [e] at h; exact h
      | false => rw [e] at h; exact zbw h
theorem CompSc.locX (S : CompSc X scope x) : Loc (zaY X scope x s₃ H₃ fp pins).env.scope x := by
  rcases S.loc with h | h
  · exact .inl (lookup_relabel_local h)
  · exact .inr (zbw h)
theorem CompSc.fnX (S : CompSc X scope x) : (zaY X scope x s₃ H₃ fp pins).fn x = true ∨ (zaY X scope x s₃ H₃ fp pins).env.scope.names.lookup x = some .local := by
  rcases S.loc with h | h
  · exact .inr (lookup_relabel_local h)
  · left
    show (decide (x = x) && decide (scope.names.lookup x = some .cell)) = true
    simp [h]
theorem zhU (S : CompSc X scope x) (I : Inv X pins σ H₃ s₃) (hf : ∀ b ∈ fp, zfz X pins H₃ b) (hlt : ∀ b ∈ fp, b < s₃.heap.objs.size) : (zaY X scope x s₃ H₃ fp pins).Ok where
  mod := I.ok.mod
  kind := S.kind
  glob := I.ok.glob
  blt := I.ok.blt
  above := Nat.le_refl _
  inj := fun y z c h1 h2 => by
    have old : ∀ {y : Str} {c : Addr}, X.env.cells.lookup y = some c → c < s₃.heap.objs.size := fun {y c} h => by
      obtain ⟨v, o, ho, _⟩ := I.cell y c h
      exact Heap.lt_size ho
    rcases S.look I.ok h1 with ⟨e1, _, e2⟩ | ⟨_, q1⟩
    · rcases S.look I.ok h2 with ⟨e3, _, e4⟩ | ⟨_, q2⟩
      · rw [e1, e3]
      · have := old q2; rw [e2] at this; exact absurd this (Nat.not_lt.mpr (Nat.le_succ _))
    · rcases S.look I.ok h2 with ⟨e3, _, e4⟩ | ⟨_, q2⟩
      · have := old q1; rw [e4] at this; exact absurd this (Nat.not_lt.mpr (Nat.le_succ _))
      · exact I.ok.inj y z c q1 q2
  has := fun y h => by
    rcases S.kindOf h with q | ⟨q1, q2⟩
    · obtain ⟨c, hc, _⟩ := S.has (s₃ := s₃) (H₃ := H₃) (fp := fp) (pins := pins) q
      exact ⟨c, hc⟩
    · refine ⟨s₃.heap.objs.size + 1, ?_⟩
      show (zbJ scope x (s₃.heap.objs.size + 1) (zft X.env scope.names [])).lookup y = _
      unfold zbJ
      rw [if_pos q2, q1, List.lookup_cons, beq_self_eq_true]
  cab := fun y c h hc => by
    have h : (decide (y = x) && decide (scope.names.lookup x = some .cell)) = true := h
    rw [Bool.and_eq_true, decide_eq_true_iff, decide_eq_true_iff] at h
    rcases S.look I.ok hc with ⟨_, _, e⟩ | ⟨q, _⟩
    · rw [e]; exact Nat.le_succ _
    · exact absurd h (fun z => q.elim (fun w => w z.1) fun w => w z.2)
  hd := I.ok.hd
  frames := I.ok.frames
  stk := .inl rfl
  exf := fun b hb => ⟨Nat.ne_of_lt (hlt b hb), fun y c h => by
    rcases S.look I.ok h with ⟨_, _, e⟩ | ⟨_, q⟩
    · rw [e]; exact fun z => absurd (z ▸ hlt b hb) (Nat.not_lt.mpr (Nat.le_succ _))
    · exact (hf b hb).2.2.2.2.1 y c q⟩
  bs := I.bs
  bsz := Nat.le_trans I.ok.bsz I.sz
  noex := fun b o e hb => by
    obtain ⟨_, _, _, h, _⟩ := hf b hb
    rcases h with h | h
    · exact I.ok.noex b o e h
    · exact absurd (Nat.lt_of_lt_of_le (Heap.lt_size e) (Nat.le_trans I.ok.bsz h)) (Nat.lt_irrefl _)
  exfs := fun b hb hz => by
    obtain ⟨_, h1, h2, _⟩ := hf b hb
    rcases List.mem_cons.mp (I.stkSub b hz) with e | e
    · exact h1 e
    · exact h2 e
  funs := I.stack
  frf := I.stkFree
theorem zi2 {N : List Str} {i : Nat} {y : Str} (h : (zj9 x N)[i]? = some y) : ∃ z, N[i]? = some z ∧ ((z = x ∧ y = "") ∨ (z ≠ x ∧ y = z)) := by
  unfold zj9 at h
  rw [List.getElem?_map, jo2] at h
  obtain ⟨z, e1, e2⟩ := h
  refine ⟨z, e1, ?_⟩
  split at e2
  · exact .inl ⟨by assumption, e2.symm⟩
  · exact .inr ⟨by assumption, e2.symm⟩
theorem zi3 {h₁ : Heap} {tk : Nat} (S : CompSc X scope x) (I : Inv X pins σ H₃ s₃) (hf : ∀ b ∈ fp, zfz X pins H₃ b) (hlt : ∀ b ∈ fp, b < s₃.heap.objs.size) (hns : h₁.Ns s₃.heap.objs.size fun _ => Option.none)
    (hk : ∀ b o, s₃.heap.get? b = some o → h₁.get? b = some o) (zg7 : scope.names.lookup x = some .cell → h₁.IsCell (s₃.heap.objs.size + 1) Option.none) : Inv (zaY X scope x s₃ H₃ fp pins) [] (Option.none :: σ) H₃ { s₃ with heap := h₁, toks := tk } := by
  refine ⟨zhU S I hf hlt, rfl, I.bare, Un.kept hk, ⟨_, hns, fun i y v h1 h2 h3 => ?_⟩, fun y c h => ?_, I.hok.fresh (Nat.le_refl _), fun y c h => ?_, fun p hp => ?_, I.hok.kept hk, ?_⟩
  · cases i with
    | zero => cases h2
    | succ i =>
      have h1 : (zj9 x X.N)[i]? = some y := h1
      have h2 : σ[i]? = some (some v) := h2
      obtain ⟨z, e1, e2⟩ := zi2 h1
      have vis : scope.names.lookup y = some .local ∨ scope.names.lookup y = some .free := by
        rcases h3 with q | q
        · rcases zaK (show _ = _ from q) with q | ⟨z, q⟩
          · exact .inl q
          · cases z
        · rcases S.kindOf q with q | ⟨q, _⟩
          · exact .inr q
          · exfalso
            rcases e2 with ⟨_, z⟩ | ⟨ne, z⟩
            · have hx : x = "" := q.symm.trans z
              have hn := S.none
              rw [← hx] at hn
              rcases S.loc with w | w <;> rw [hn] at w <;> cases w
            · exact ne (z.symm.trans q)
      rcases e2 with ⟨rfl, rfl⟩ | ⟨ne, rfl⟩
      · rw [S.none] at vis
        rcases vis with q | q <;> cases q
      · rcases vis with q | q
        · exact absurd (S.own y (List.mem_of_getElem? e1) q) ne
        · have kx := S.free _ (zbE q) rfl
          obtain ⟨m, _, hl⟩ := I.loc
          obtain ⟨u, ru, l⟩ := hl i y v e1 h2 (.inr kx)
          refine ⟨u, ru, .inr ⟨?_, ?_⟩⟩
          · rcases h3 with q' | q'
            · rcases zaK (show _ = _ from q') with q' | ⟨z, _⟩
              · rw [q] at q'; cases q'
              · cases z
            · exact q'
          · rcases l with ⟨k, _⟩ | ⟨_, c, hc, hcell'⟩
            · have k : X.env.scope.names.lookup y = some .local := k
              rcases kx with z | z
              · have z : X.env.scope.names.lookup y = some .cell := z
                rw [z] at k; cases k
              · have z : X.env.scope.names.lookup y = some .free := z
                rw [z] at k; cases k
            · obtain ⟨c', hc', hc2⟩ := S.has (s₃ := s₃) (H₃ := H₃) (fp := fp) (pins := pins) q
              have e : X.env.cells.lookup y = some c' := by
                rcases zbk (S.cells I.ok) hc2 with q | q
                · cases q
                · exact q
              rw [hc] at e
              cases e
              obtain ⟨o, ho, hd⟩ := hcell'
              exact ⟨c, hc', o, hk _ _ ho, hd⟩
  · rcases S.look I.ok h with ⟨_, q, e⟩ | ⟨_, q⟩
    · rw [e]; exact ⟨Option.none, zg7 q⟩
    · obtain ⟨v, o, ho, hd⟩ := I.cell y c q
      exact ⟨v, o, hk _ _ ho, hd⟩
  · rcases S.look I.ok h with ⟨_, q, e⟩ | ⟨_, q⟩
    · rw [e]; exact I.hok.fresh (Nat.le_succ _)
    · exact I.freeC y c q
  · have hp : p ∈ X.pn ++ pins := by simpa [zaY] using hp
    obtain ⟨e, n, ne, nf, d⟩ := I.pin p hp
    refine ⟨hk _ _ e, n, Nat.ne_of_lt (Heap.lt_size e), fun z => ?_, d⟩
    rcases List.mem_cons.mp (I.stkSub _ z) with q | q
    · exact ne q
    · exact nf q
  · show σ.length + 1 = (x :: zj9 x X.N).length
    unfold zj9
    rw [List.length_cons, List.length_map, I.len]
theorem zhV {s' : Shared} {h' : Heap} {H' : Hp} {σ' : St} {ps : List (Addr × Obj)} (I : Inv X pins σ H₃ s₃) (hf : ∀ b ∈ fp, zfz X pins H₃ b) (J : Inv (zaY X scope x s₃ H₃ fp pins) ps σ' H' s') (hs : Heap.SameBut s₃.heap.objs.size s'.heap h') :
    Inv X pins σ H' { s' with heap := h' } := by
  have ne : ∀ b o, s₃.heap.get? b = some o → b ≠ s₃.heap.objs.size := fun b o e => Nat.ne_of_lt (Heap.lt_size e)
  have fr : H' s₃.heap.objs.size = Option.none := J.free
  have same : ∀ b, b ≠ s₃.heap.objs.size → h'.get? b = s'.heap.get? b := fun b hb => hs.2 b hb
  refine I.call' (s' := { s' with heap := h' }) (ch := fp) J.os ⟨fun b o e n hb hx => ?_, fun b o e n hb hx => ?_, fun b o e n hx => J.base.free b o e n hx, fun b o e hx => ?_, J.base.tups, J.base.frzs, J.base.tbls⟩ (fun b o e => ?_) J.bare fun b hb => ?_
  · exact (same b (ne b o e)).trans (J.base.keep b o e n hb hx)
  · obtain ⟨sl, q⟩ := J.base.slot b o e n hb hx
    exact ⟨sl, (same b (ne b o e)).trans q⟩
  · obtain ⟨o', q⟩ := J.base.there b o e hx
    exact ⟨o', (same b (ne b o e)).trans q⟩
  · refine (J.hok b o e).stay (fun c v hc q => (same c ?_).trans q) (fun _ q => q) fun _ _ q => q
    intro z
    rcases hc with w | w
    · rw [← w, z, fr] at e; cases e
    · rw [z, fr] at w; cases w
  · obtain ⟨_, h1, _, h3, h4, h5⟩ := hf b hb
    exact ⟨h3, h1, h4, h5⟩
end
theorem zgE {prog : Program} {w : World} {A : Around} {E : Result → Shared → Prop} {s : Shared} {elt target iter : Expr} {ifs : List Expr} {scope : Scope} {pos : Pos} {it acc : Value} {env : PySem.Env} (J : Nat → Shared → Prop)
    (turn : ∀ n s, J n s → wpAny (model prog w) A (pyNext it) (fun r s1 => match r with
      | Option.none => E (.ok .next) s1
      | some v => wpAny (model prog w) A (letOwnedTupleGo target it v) (fun _ s2 => wpAny (model prog w) A (assign target env v) (fun _ s3 =>
          wpAny (model prog w) A (forIn ifs true fun c r => if r = true then do let ok ← isTrue c env (eval c env); pure (ForInStep.yield ok) else pure (ForInStep.yield r)) (fun ok s4 =>
            if ok = true then wpAny (model prog w) A (eval elt env) (fun y s5 => wpAny (model prog w) A (call (.builtin "list.append") [acc, y]) (fun _ s6 => ∃ m, m < n ∧ J m s6) (fun _ _ => False) s5) (fun _ _ => False) s4
            else ∃ m, m < n ∧ J m s4) (fun _ _ => False) s3) (fun _ _ => False) s2) (fun _ _ => False) s1) (fun _ _ => False) s)
    (n : Nat) (h : J n s) : codeAny (model prog w) A (.compLoop (.ListComp elt [⟨target, iter, ifs, 0⟩] scope pos) 0 it acc env) E s := by
  refine codeAny_loop rfl J (fun n s hJ => ?_) n h
  show wpAny _ _ ((compTurn (.ListComp elt [⟨target, iter, ifs, 0⟩] scope pos) 0 it acc env).onRaise _) _ _ s
  refine wpAny_noted ?_
  rw [compTurn_list]
  have no : ∀ (e : Value) (s' : Shared), False → notedBy (model prog w) A env (fun e s' => E (.error e) s') e s' := fun _ _ z => z.elim
  refine wpAny_bind (wpAny_standAt (wpAny_bind (wpAny_mono (turn n s hJ) (fun r s1 h1 => ?_) no)))
  cases r with
  | none => exact wpAny_pure h1
  | some v =>
    refine wpAny_bind (wpAny_mono h1 (fun _ s2 h2 => ?_) no)
    refine wpAny_bind (wpAny_mono h2 (fun _ s3 h3 => wpAny_bind (wpAny_mono h3 (fun ok s4 h4 => ?_) no)) no)
    cases ok with
    | false => exact wpAny_pure ⟨rfl, h4⟩
    | true => exact wpAny_bind (wpAny_bind (wpAny_mono h4 (fun y s5 h5 => wpAny_bind (wpAny_mono h5 (fun _ s6 h6 => wpAny_pure (wpAny_pure ⟨rfl, h6⟩)) no)) no))
theorem R.cons {K : PySem.W.Frag} {W : Addr → Prop} {ρ : LW.Env} {σ : St} {H : Hp} {d : D} {v : V} (r : R K W ρ σ H) (h : Rep K W H d v) : R K W (some (.val d) :: ρ) (some v :: σ) H := by
  refine ⟨fun i e hi => ?_, fun i e hi => ?_, fun i x e hi hc => ?_, fun i j x y d e a h1 h2 c1 c2 h3 h4 => ?_, r.wf, by simpa using r.len⟩
  · cases i with
    | zero => cases hi; exact ⟨v, rfl, h⟩
    | succ i => exact r.val i e hi
  · cases i with
    | zero => cases hi
    | succ i => exact r.nol i e hi
  · cases i with
    | zero => cases hi; cases hc
    | succ i => exact r.own i x e hi hc
  · cases i with
    | zero => cases h1; cases c1
    | succ i =>
      cases j with
      | zero => cases h2; cases c2
      | succ j => rw [r.inj i j x y d e a h1 h2 c1 c2 h3 h4]
noncomputable def zhW (X : Cx) (fn : Nat → List D → Option SV) (scope : Scope) (x : Str) (ifs : List Expr) (cond : E) : Prop :=
  (ifs = [] ∧ cond = .bl true) ∨ ∃ c, ifs = [c] ∧ ∀ s₃ H₃ fp pins, IT (zaY X scope x s₃ H₃ fp pins) fn c cond
section
variable {X : Cx} {fn : Nat → List D → Option SV}
theorem zi4 {scope : Scope} {x : Str} {ifs : List Expr} {cond : E} {s₃ : Shared} {H₃ : Hp} {fp : List Addr} {pins ps : List (Addr × Obj)} {σ : St} {H : Hp} {s : Shared} {W : Addr → Prop} {ρ : LW.Env} {k : Bool} {Q : Bool → Hp → Prop}
    (hc : zhW X fn scope x ifs cond) (I : Inv (zaY X scope x s₃ H₃ fp pins) ps σ H s) (hR : R X.K W ρ σ H) (he : evT fn cond ρ = some k) (q : ∀ H', Same H H' → Q k H') :
    wpAny (model X.prog X.w) X.A (forIn ifs true fun c r => if r = true then do let ok ← isTrue c (zaY X scope x s₃ H₃ fp pins).env (eval c (zaY X scope x s₃ H₃ fp pins).env); pure (ForInStep.yield ok) else pure (ForInStep.yield r))
      (TP (zaY X scope x s₃ H₃ fp pins) ps σ Q) (fun _ _ => False) s := by
  rcases hc with ⟨rfl, rfl⟩ | ⟨c, rfl, hc⟩
  · simp only [zqB] at he
    cases he
    exact wpAny_tests_nil ⟨H, I, q H (.refl H)⟩
  · exact wpAny_tests_one ((hc s₃ H₃ fp pins).h ps s σ H Q I ⟨W, ρ, k, hR, he, q⟩)
theorem zc2 {test : D → Option Bool} {elt : D → Option SV} : ∀ {ds out : List D}, zcC test elt ds = some out → out.length ≤ ds.length
  | [], _, h => by simp only [zcC] at h; cases h; exact Nat.le_refl _
  | d :: r, out, h => by
    simp only [zcC, jo1] at h
    obtain ⟨b, e1, e2⟩ := h
    cases b with
    | true =>
      simp only [jo1, jo2] at e2
      obtain ⟨_, _, _, _, l, e3, rfl⟩ := e2
      have := zc2 e3
      simp; omega
    | false => have := zc2 e2; simp; omega
theorem zkS {scope : Scope} {x : Str} {s₃ : Shared} {H₃ H' : Hp} {fp : List Addr} {pins : List (Addr × Obj)} {σ : St} (S : CompSc X scope x) (I : Inv X pins σ H₃ s₃) (hf : ∀ b ∈ fp, zfz X pins H₃ b) (hlt : ∀ b ∈ fp, b < s₃.heap.objs.size)
    (hn : ∀ b ∈ fp, H' b = Option.none) : ∀ b ∈ fp, zfz (zaY X scope x s₃ H₃ fp pins) [] H' b := fun b hb => by
  have ok := zhU S I hf hlt
  refine ⟨hn b hb, (ok.exf b hb).1, ok.exfs b hb, .inl hb, (ok.exf b hb).2, fun p hp => ?_⟩
  have hp : p ∈ X.pn ++ pins := by simpa [zaY] using hp
  exact (hf b hb).2.2.2.2.2 p hp
structure CSt (X : Cx) (scope : Scope) (x : Str) (s₃ : Shared) (H₃ : Hp) (fp : List Addr) (pins : List (Addr × Obj)) (σ : St) (tn : Nat → Heap → Prop) (H2 : Hp) (W : Addr → Prop) (L : Addr) (test : D → Option Bool) (elt : D → Option SV) (ds out : List D)
    (n k : Nat) (y : Option V) (H' : Hp) (ys : List V) (out1 zbX : List D) (s' : Shared) : Prop where
  inv : Inv (zaY X scope x s₃ H₃ fp pins) [] (y :: σ) H' s'
  htn : tn k s'.heap
  hfp : ∀ b ∈ fp, H' b = Option.none
  hn : n = ds.length + 1 - k
  hk : k ≤ ds.length
  same : Same H2 H'
  lst : H' L = some (.lst ys)
  reps : Reps X.K (add W L) H' out1 ys
  hrest : zcC test elt (ds.drop k) = some zbX
  hout : out = out1 ++ zbX
theorem zhX {iter elt : Expr} {x : Str} {px pos pos2 : Pos} {ifs : List Expr} {scope : Scope} {rng : Bool} {src : Es} {cond ce : E} {pins : List (Addr × Obj)} {s : Shared} {σ : St} {H : Hp} {W : Addr → Prop} {ρ : LW.Env} {rs : List SV} {ds out : List D} {use : Option (Value → Sem Unit)} {Qe : Value → Shared → Prop}
    (hcalm : X.calm = true) (S : CompSc X scope x) (hsrc : Src X fn (.Name x px) iter rng src)
    (hcond : zhW X fn scope x ifs cond) (helt : ∀ s₃ H₃ fp pins, IE (zaY X scope x s₃ H₃ fp pins) fn elt ce) (hfo : ∀ y, foldedSetIterable iter X.env y = pure y) (I : Inv X pins σ H s) (hR : R X.K W ρ σ H)
    (e1 : zbp fn src ρ = some rs) (e2 : zaJ rng rs = some ds) (hline : ds.length ≤ line) (e3 : zcC (fun d => evT fn cond (some (.val d) :: ρ)) (fun d => evE fn ce (some (.val d) :: ρ)) ds = some out)
    (fin : ∀ (s4 : Shared) (fl : Flow) (m : Str → Option Value) (C L : Addr) (H' : Hp), s4.heap.Ns C m → (∀ h', Heap.SameBut C s4.heap h' → Inv X pins σ H' { s4 with heap := h' }) → (X.s₀.heap.objs.size ≤ C ∧ C ≠ X.env.locals ∧ (∀ y c, X.env.cells.lookup y = some c → c ≠ C) ∧ (∀ p ∈ X.pn ++ pins, p.1 ≠ C) ∧ H' C = Option.none) → Same H H' →
      Res X.K W H H' (.obj true (.lst out)) (.ref L) → compPost (model X.prog X.w) X.A X.xe use Qe (.ref L) C (.ok fl) s4) :
    wpAny (model X.prog X.w) X.A (comprehension (.ListComp elt [⟨.Name x px, iter, ifs, 0⟩] scope pos) scope X.env pos2 (newList []) false (eval iter X.env) use) Qe X.xe s := by
  have hclos := zc1 (scope := scope) (env := X.env) (S.cells I.ok)
  refine wpAny_comprehension_free (use := use) rfl hfo hclos S.kind S.names ?_
  refine thn (hsrc.h pins s σ H (fun J H2 => Same H H2 ∧ Ys X.K J W H2 ds) I ⟨W, ρ, rs, ds, hR, e1, e2, fun J H' s1 y _ => ⟨s1, y⟩⟩) fun v s1 h1 => thn h1 fun itv s2 h2 => ?_
  obtain ⟨it, fp, tn, J, H2, rfl, I2, T, st2, f2, sm, hy⟩ := h2
  refine wpAny_newObj_type (zfJ S fun h₁ hns₁ hk₁ hc₁ => ?_)
  have I3 := I2.lnew (t' := s2.toks) (ys := []) (its := []) .nil (Nat.zero_le _)
  have hD : H2 s2.heap.objs.size = Option.none := I2.fresh
  generalize hL : s2.heap.objs.size = L at hD
  generalize hs3 : ({ s2 with heap := s2.heap.push { cls := .type "list", data := .seq ([] : List Value).toArray }, toks := s2.toks } : Shared) = s₃ at I3
  have hs3h : s₃.heap = s2.heap.push { cls := .type "list", data := .seq ([] : List Value).toArray } := by rw [← hs3]
  rw [hL] at I3
  generalize hH3 : upd H2 L (.lst []) = H₃ at I3
  have blt : ∀ b ∈ fp, b < s2.heap.objs.size := fun b hb => by
    obtain ⟨o, e, _⟩ := T.obj _ _ st2 b hb
    exact Heap.lt_size e
  have hlt : ∀ b ∈ fp, b < s₃.heap.objs.size := fun b hb => by rw [hs3h, Heap.size_push]; exact Nat.lt_succ_of_lt (blt b hb)
  have hf : ∀ b ∈ fp, zfz X pins H₃ b := fun b hb => by
    refine ⟨?_, (f2 b hb).2⟩
    rw [← hH3, zau (by rw [← hL]; exact Nat.ne_of_lt (blt b hb))]
    exact (f2 b hb).1
  have keep1 : ∀ b o, s₃.heap.get? b = some o → h₁.get? b = some o := fun b o e => by
    rw [hs3h] at e
    exact hk₁ b o e
  have ns1 : h₁.Ns s₃.heap.objs.size fun _ => Option.none := by rw [hs3h]; exact hns₁
  have Ic := zi3 (tk := s2.toks) S I3 hf hlt ns1 keep1 (by rw [hs3h]; exact hc₁)
  have fpc := fun {H' : Hp} hn => zkS (H' := H') S I3 hf hlt hn
  have win : ∀ b, add W L b → W b ∨ H2 b = Option.none := fun b w => by
    rcases w with w | rfl
    · exact .inl w
    · exact .inr hD
  have hRL : ∀ {H' : Hp} {ys : List V}, Same H2 H' → H' L = some (.lst ys) → R X.K (add W L) ρ σ H' := fun {H' ys} sm' e => (hR.same sm).add sm' hD e
  have lenO : out.length ≤ ds.length := zc2 e3
  have loop : ∀ s' : Shared, s' = { s₃ with heap := h₁, toks := s2.toks } → codeAny (model X.prog X.w) X.A (.compLoop (.ListComp elt [⟨.Name x px, iter, ifs, 0⟩] scope pos) 0 (.ref it) (.ref L) (zaY X scope x s₃ H₃ fp pins).env)
      (compPost (model X.prog X.w) X.A X.xe use Qe (.ref L) s₃.heap.objs.size) s' := by
    rintro s' rfl
    refine zgE (fun n s' => ∃ k y H' ys out1 zbX, CSt X scope x s₃ H₃ fp pins σ tn H2 W L (fun d => evT fn cond (some (.val d) :: ρ)) (fun d => evE fn ce (some (.val d) :: ρ)) ds out n k y H' ys out1 zbX s') ?_ (ds.length + 1)
      ⟨0, Option.none, H₃, [], [], out, Ic, T.keep _ _ _ st2 (fun b hb o e => keep1 b o (by rw [hs3h]; exact Heap.get?_push_of_some _ e)), fun b hb => (hf b hb).1, rfl, Nat.zero_le _, by rw [← hH3]; exact zaN hD _, by rw [← hH3]; exact zaL, .nil, e3, rfl⟩
    rintro n s' ⟨k, y, H', ys, out1, zbX, c⟩
    obtain ⟨hstop, hgo⟩ := hy (add W L) H' c.same win k
    by_cases hk : k < ds.length
    · have hd : ds[k]? = some ds[k] := by simp [hk]
      obtain ⟨g1, g2⟩ := hgo _ hd
      have crest := c.hrest
      rw [zeK hd] at crest
      simp only [zcC, jo1] at crest
      obtain ⟨b, t1, t2⟩ := crest
      refine thn (T.item (zaY X scope x s₃ H₃ fp pins) rfl rfl rfl hcalm k [] s' (y :: σ) H' _ c.inv (fpc c.hfp) c.htn g1) fun r s4 ⟨u, hr, h4⟩ => ?_
      subst hr
      refine thn h4 fun _ s5 ⟨xv, H5, I5, r5, y5, st5, fr5⟩ => ?_
      obtain ⟨rfl, rv⟩ := g2 xv H5 y5
      have I5' := I5.pinned (fpc fr5) (T.obj _ _ st5)
      refine thn (zfy (X := zaY X scope x s₃ H₃ fp pins) (i := 0) S.nd rfl S.locX S.fnX _ s5 (y :: σ) H5 xv u (fun σ' H' => σ' = some xv :: σ ∧ H' = H5) I5' r5 ⟨rfl, rfl⟩) fun _ s6 ⟨σ6, H6, I6, q6, q7⟩ => ?_
      subst q6 q7
      have hRc := (hRL c.same c.lst).cons rv
      refine thn (zi4 (Q := fun b' H7 => b' = b ∧ Same H6 H7) hcond I6 hRc t1 fun H7 s7 => ⟨rfl, s7⟩) fun ok s7 ⟨H7, I7, q7, m7⟩ => ?_
      subst q7
      have back : ∀ {s' : Shared} {H' : Hp}, Inv (zaY X scope x s₃ H₃ fp pins) ([] ++ zew fp s5.heap) (some xv :: σ) H' s' → tn (k + 1) s'.heap ∧ ∀ b ∈ fp, H' b = Option.none := fun {s' H'} J => by
        refine ⟨T.keep _ _ _ st5 fun b hb o e => (J.pin (b, o) (List.mem_append_right _ (List.mem_append_right _ (zbC hb e)))).1, fun b hb => ?_⟩
        obtain ⟨o, e, d⟩ := T.obj _ _ st5 b hb
        exact (J.pin (b, o) (List.mem_append_right _ (List.mem_append_right _ (zbC hb e)))).2.1
      cases ok with
      | false =>
        rw [if_neg Bool.false_ne_true]
        have bk := back I7
        exact ⟨_, by have := c.hn; omega, k + 1, some xv, H7, ys, out1, zbX, I7.unpinned, bk.1, bk.2, rfl, hk, c.same.trans m7, m7 _ _ c.lst, c.reps.ext (.same m7), t2, c.hout⟩
      | true =>
        rw [if_pos rfl]
        simp only [jo1, jo2] at t2
        obtain ⟨r8, t3, d8, t4, rest', t5, rfl⟩ := t2
        have hR7 := hRc.same m7
        refine thn ((helt s₃ H₃ fp pins).h _ s7 _ H7 (fun v H8 => Same H7 H8 ∧ Rep X.K (add W L) H8 d8 v) I7 ⟨add W L, _, r8, hR7, t3, fun v8 H8 m8 res => ⟨m8, (res.frz hR7.wf).toD t4⟩⟩) fun u8 s8 ⟨v8, H8, I8, rl8, m8, rp8⟩ => ?_
        have lst8 := m8 _ _ (m7 _ _ c.lst)
        have lenY := c.reps.length
        have lenT := congrArg List.length c.hout
        rw [List.length_append, List.length_cons] at lenT
        have le := zfE
        refine thn (zeB (X := zaY X scope x s₃ H₃ fp pins) _ s8 _ H8 (.ref L) [v8] (.ref L) [u8] (fun _ H9 => H9 = upd H8 L (.lst (ys ++ [v8]))) I8 rfl (.cons rl8 .nil) ⟨L, ys, v8, rfl, rfl, lst8, by omega, rfl⟩) fun _ s9 ⟨_, H9, I9, _, q9⟩ => ?_
        subst q9
        have bk := back I9
        have ext : Ext (add W L) H8 (add W L) (upd H8 L (.lst (ys ++ [v8]))) := by
          refine ⟨fun b o q n => ?_, fun b zs q => ?_, fun b o u q => ?_, fun b w => .inl w⟩
          · rw [zau (fun z => n (.inr z))]; exact q
          · rw [zau (fun z => by rw [z, lst8] at q; cases q)]; exact q
          · rw [zau (fun z => by rw [z, lst8] at q; cases q)]; exact q
        have smL : Same H2 (upd H8 L (.lst (ys ++ [v8]))) := fun b o q => by
          rw [zau (fun z => by rw [z, hD] at q; cases q)]
          exact m8 _ _ (m7 _ _ (c.same _ _ q))
        exact ⟨_, by have := c.hn; omega, k + 1, some xv, _, ys ++ [v8], out1 ++ [d8], rest', I9.unpinned, bk.1, bk.2, rfl, hk, smL, zaL, ((c.reps.ext (.same (m7.trans m8))).ext ext).append (.cons (rp8.ext ext) .nil), t5, by rw [c.hout]; simp⟩
    · have ek : k = ds.length := by have := c.hk; omega
      refine thn (T.done (zaY X scope x s₃ H₃ fp pins) rfl rfl rfl hcalm k [] s' (y :: σ) H' _ c.inv (fpc c.hfp) c.htn (hstop ek)) fun r s4 ⟨hr, I4⟩ => ?_
      subst hr
      obtain ⟨m, hn, _⟩ := I4.loc
      have er := c.hrest
      rw [List.drop_of_length_le (by omega), zcC] at er
      cases er
      have eo := c.hout
      rw [List.append_nil] at eo
      refine fin s4 _ m _ L H' hn (fun h' hs => zhV I3 hf I4 hs) ⟨I3.sz, (Nat.ne_of_lt I3.lt).symm, fun y cc hc => ?_, fun p hp => ?_, I4.free⟩ (sm.trans c.same) (by rw [eo]; exact .new (sm.free hD) c.lst (.lst c.reps))
      · obtain ⟨v, o, ho, _⟩ := I3.cell y cc hc
        exact Nat.ne_of_lt (Heap.lt_size ho)
      · exact Nat.ne_of_lt (Heap.lt_size (I3.pin p hp).1)
  have st0 : tn 0 h₁ := T.keep _ _ _ st2 (fun b hb o e => keep1 b o (by rw [hs3h]; exact Heap.get?_push_of_some _ e))
  subst hs3 hL
  exact codeAny_compStart_list (loop _ rfl) (T.self X.A 0 _ _ _ st0 (loop _ rfl))
theorem zcr {iter elt : Expr} {x : Str} {px pos : Pos} {ifs : List Expr} {scope : Scope} {rng : Bool} {src : Es} {cond ce : E} (hcalm : X.calm = true) (S : CompSc X scope x) (hsrc : Src X fn (.Name x px) iter rng src)
    (hcond : zhW X fn scope x ifs cond) (helt : ∀ s₃ H₃ fp pins, IE (zaY X scope x s₃ H₃ fp pins) fn elt ce) (hfo : ∀ y, foldedSetIterable iter X.env y = pure y := by intro _; rfl) :
    IE X fn (.ListComp elt [⟨.Name x px, iter, ifs, 0⟩] scope pos) (.comp rng src cond ce) := by
  refine .mk ?_
  rintro pins s σ H Q I ⟨W, ρ, r, hR, he, q⟩
  simp only [zkD, jo1] at he
  obtain ⟨rs, e1, ds, e2, e3⟩ := he
  split at e3
  case isFalse => cases e3
  rename_i hline
  rw [jo2] at e3
  obtain ⟨out, e3, rfl⟩ := e3
  rw [eval_ListComp]
  refine zhX (use := Option.none) hcalm S hsrc hcond helt hfo I hR e1 e2 hline e3 fun s4 fl m C L H' hn back _ sm res => ?_
  exact ⟨m, hn, fun h' hs => ⟨.ref L, H', back h' hs, rfl, q _ H' sm res⟩⟩
end
end L2.LW
set_option maxHeartbeats 4000000
namespace L2.LW
open PySem PySem.Spec PyProof.Rows
noncomputable def tyN : Ty → String
  | .bool => "bool" | .int => "int" | .str => "str" | .list => "list" | .tuple => "tuple"
noncomputable def dTy : D → String
  | .int _ => "int" | .bl _ => "bool" | .non => "NoneType" | .str _ => "str" | .tup _ => "tuple" | .lst _ => "list" | .dct _ _ _ => "dict"
theorem zmV (K : PySem.W.Frag) (d : D) (t : Ty) : PySem.W.kitOne K (.type (dTy d)) (.type (tyN t)) = some (zcT t d) := by
  cases d <;> cases t <;> rfl
section
variable {X : Cx} {fn : Nat → List D → Option SV}
theorem zi5 {pins : List (Addr × Obj)} {σ : St} {H : Hp} {s : Shared} {W : Addr → Prop} {A : Around} {E Q : Value → Shared → Prop} {d : D} {x : V} {u : Value} {t : Ty} (I : Inv X pins σ H s) (h : Sees X.K W H d x) (r : RelV x u)
    (q : ∀ tk, Q (.bool (zcT t d)) { s with toks := tk }) : wpAny (model X.prog X.w) A (call (.builtin "isinstance") [u, .type (tyN t)]) Q E s := by
  have e := zmV X.K d t
  cases d with
  | int i => cases h.int; obtain ⟨tk, rfl⟩ := r; exact PySem.W.kia_one PySem.W.kitx_int I.kIn True.intro e (fun z => nomatch z) q
  | bl b => cases h.bl; cases r; exact PySem.W.kia_one PySem.W.kitx_bool I.kIn True.intro e (fun z => nomatch z) q
  | non => cases h.non; cases r; exact PySem.W.kia_one PySem.W.kitx_none I.kIn True.intro e (fun z => nomatch z) q
  | str y => cases h.str; obtain ⟨tk, rfl⟩ := r; exact PySem.W.kia_one PySem.W.kitx_str I.kIn True.intro e (fun z => nomatch z) q
  | tup l =>
    obtain ⟨a, xs, rfl, hq, _⟩ := h.tup
    cases r
    obtain ⟨its, rv, ⟨o, ho, hc, n, hd⟩, hz⟩ := I.tuple hq
    exact PySem.W.kia_one PySem.W.kitx_tuple I.kIn ⟨o, ho, hc⟩ e (fun z => nomatch z) q
  | lst l =>
    obtain ⟨a, xs, rfl, hq, _⟩ := h.lst
    cases r
    obtain ⟨its, rv, ⟨o, n, ho, hc, _, hd⟩, hz⟩ := I.list hq
    exact PySem.W.kia_one PySem.W.kitx_list I.kIn ⟨o, ho, hc⟩ e (fun z => nomatch z) q
  | dct b ks vs =>
    cases b with
    | false =>
      obtain ⟨a, ns, ys, rfl, _, hH, _⟩ := h.dK
      cases r
      obtain ⟨_, _, vs, _, ob, _, _, h1, h2, _⟩ := zho I.hok (.inl hH)
      exact PySem.W.kia_one PySem.W.kitx_dict I.kIn ⟨ob, h1, h2.1⟩ e (fun z => nomatch z) q
    | true =>
      obtain ⟨a, ns, ys, rfl, _, hH, _⟩ := h.dT
      cases r
      obtain ⟨_, _, xs, _, ob, _, _, h1, h2, _⟩ := zhp I.hok (.inl hH)
      exact PySem.W.kia_one PySem.W.kitx_dict I.kIn ⟨ob, h1, h2.1⟩ e (fun z => nomatch z) q
theorem zkT (t : Ty) : CallR X (.builtin "isinstance") (fun xs H Q => ∃ x, xs = [x, .ty (tyN t)] ∧ VR X.K (zai (.inst t)) [x] H Q) := by
  rintro pins s σ H xs us Q I rv ⟨x, rfl, W, ds, r, wf, hs, hf, q⟩
  obtain ⟨d, rfl, h1⟩ := pr1 hs
  replace hf : zmt t [d] = some r := hf
  cases hf
  obtain ⟨u, w', rfl, r1, r2⟩ := zqc rv
  cases r2
  exact zi5 I h1 r1 fun tk => ⟨.bl _, H, I.tok tk, rfl, q _ H (.refl H) (.val (.bl _))⟩
theorem zeM {a : Expr} {ca : E} {t : Ty} {y : Str} {p p2 pos : Pos} (hg : Gl X "isinstance") (hm : X.mg "isinstance" = Option.none) (hg2 : Gl X y) (hm2 : X.mg y = Option.none) (hv : bootBuiltins y = some (.type (tyN t))) (ha : IE X fn a ca)
    (hn : y ≠ "__name__" := by decide) (hdb : (y == ("__debug__" : Str)) = false := by decide)
    (h1 : starEach [a, .Name y p2] X.env = (false, eval a X.env) :: starEach [.Name y p2] X.env := by rfl) (h2 : starEach [.Name y p2] X.env = (false, eval (.Name y p2) X.env) :: starEach [] X.env := by rfl)
    (hpl : (backTo pos (starEach [.Name y p2] X.env)).any (·.1) = false := by rfl) :
    IE X fn (.Call (.Name "isinstance" p) [a, .Name y p2] [] pos) (.prim (.inst t) (.cons ca .nil)) :=
  .mk <| (zcK (zkT t) hg hm PyProof.Rows.boot_isinstance (za3 ha.v (za3 (zkk hg2 hm2 hv (v := .ty (tyN t)) rfl hn hdb) zbY h2) h1) (by decide) (by decide) h1 hpl).imp fun σ H Q zz3 => by
    obtain ⟨W, ρ, r, hR, he, q⟩ := zz3
    simp only [zbi, zba, za1, jo1, jo2] at he
    obtain ⟨rs, ⟨r1, e1, rs', e3, rfl⟩, e4⟩ := he
    cases e3
    exact ⟨W, ρ, r1, hR, e1, fun v1 H1 s1 f1 => ⟨v1, rfl, zcg hR s1 (.cons f1 .nil) e4 q⟩⟩
theorem zdH {K : PySem.W.Frag} {W : Addr → Prop} {H : Hp} : ∀ {ds : List D} {xs : List V} {bs : List Bool}, Reps K W H ds xs → bools? ds = some bs → xs = bs.map V.bl
  | _, _, bs, .nil, e => by simp [bools?] at e; subst e; rfl
  | _, _, bs, .cons h t, e => by
    cases h with
    | bl i =>
      simp only [bools?, jo2] at e
      obtain ⟨ms, e1, rfl⟩ := e
      rw [zdH t e1]; rfl
    | _ => simp [bools?] at e
theorem zdI : ∀ {bs : List Bool} {us : List Value}, Vals (bs.map V.bl) us → us = bs.map Value.bool
  | [], us, r => by cases r; rfl
  | b :: bs, us, r => by
    cases r with
    | cons h t => cases h; rw [zdI t]; rfl
theorem zhY (bs : List Bool) : ((List.range bs.length).all fun i => bs.getD i true) = bs.all id := by
  induction bs with
  | nil => rfl
  | cons b r ih =>
    rw [List.length_cons, List.range_succ_eq_map, List.all_cons, List.all_map, List.all_cons]
    simp only [Function.comp_def, List.getD_cons_succ, List.getD_cons_zero]
    rw [ih]; rfl
theorem zka (hc : X.calm = true) : CallR X (.builtin "all") (VR X.K (zai .all)) := by
  rintro pins s σ H xs us Q I rv ⟨W, ds, r, wf, hs, hf, q⟩
  replace hf : zqu ds = some r := hf
  unfold zqu at hf
  split at hf
  · rename_i l
    rw [jo1] at hf
    obtain ⟨bs, e1, hf⟩ := hf
    cases hf
    cases hs with
    | cons h1 t =>
      cases t
      obtain ⟨p, ys, rfl, hp, rp⟩ := h1.lst
      have ey := zdH rp e1
      subst ey
      obtain ⟨u, rfl, ru⟩ := zfA rv
      cases ru
      obtain ⟨its, rv', pl, hz⟩ := I.list hp
      have ei := zdI rv'
      subst ei
      obtain ⟨o, n, ho, hcl, hdi, hda⟩ := id pl
      have hne : p ≠ s.heap.objs.size := Nat.ne_of_lt (Heap.lt_size ho)
      refine call_all_walk (wpAny_pyIter_list pl.isList ?_)
      refine ⟨s.heap.objs.size, _, _, _, _, _, fun i => bs.getD i true, rfl, Walks.list (A := X.A.in1) (I.ok.hd hc) s.heap.objs.size p hne (bs.map Value.bool).toArray, ⟨⟨_, Heap.get?_push_size _ rfl, rfl, rfl⟩, ⟨o, Heap.get?_push_of_some _ ho, hcl, n, hda⟩⟩, ?_, fun h' tk hk => ?_⟩
      · intro i v s' Q' E' hv hQ
        have hv : (bs.map Value.bool).toArray[i]? = some v := hv
        rw [List.getElem?_toArray, List.getElem?_map, jo2] at hv
        obtain ⟨b, e2, rfl⟩ := hv
        have e3 : bs.getD i true = b := by rw [List.getD_eq_getElem?_getD, e2]; rfl
        have hQ : Q' (bs.getD i true) s' := hQ
        rw [e3] at hQ
        exact wpAny_truthy_bool hQ
      · rw [List.size_toArray, List.length_map, zhY]
        refine ⟨.bl _, H, I.kept (t' := tk) (fun b o' e => ?_), rfl, q _ H (.refl H) (.val (.bl _))⟩
        exact hk b o' (by simpa using Nat.ne_of_lt (Heap.lt_size e)) (Heap.get?_push_of_some _ e)
  · cases hf
theorem zbl {scope : Scope} {env : PySem.Env} {y : Str} (h : scope.names.lookup y = some .free) : Vis (relabel scope env) y := by
  unfold Vis relabel
  have key : ∀ (names : List (Str × NameKind)), names.lookup y = some .free →
      (names.map fun (z : Str × NameKind) => match z with | (n, k) => if (k == NameKind.free && env.scope.kind == .function && env.kindOf n == some .cell) = true then (n, NameKind.cell) else (n, k)).lookup y = some .cell ∨
      (names.map fun (z : Str × NameKind) => match z with | (n, k) => if (k == NameKind.free && env.scope.kind == .function && env.kindOf n == some .cell) = true then (n, NameKind.cell) else (n, k)).lookup y = some .free := by
    intro names
    induction names with
    | nil => intro h; cases h
    | cons z r ih =>
      obtain ⟨n, j⟩ := z
      intro h
      rw [List.lookup_cons] at h
      rw [List.map_cons, List.lookup_cons]
      by_cases hc : (j == NameKind.free && env.scope.kind == .function && env.kindOf n == some .cell) = true
      · simp only [hc, if_true]
        cases e : y == n with
        | true => exact .inl rfl
        | false => rw [e] at h; exact ih h
      · simp only [hc, Bool.false_eq_true, if_false]
        cases e : y == n with
        | true => rw [e] at h; exact .inr h
        | false => rw [e] at h; exact ih h
  exact .inr (key scope.names h)
theorem zbm {scope : Scope} {env : PySem.Env} {y : Str} (h : scope.names.lookup y = some .local) : Vis (relabel scope env) y := .inl (lookup_relabel_local h)
theorem zhZ {scope : Scope} {env : PySem.Env} {y : Str} (h : scope.names.lookup y = some .globalImplicit) : (relabel scope env).names.lookup y = some .globalImplicit := by
  unfold relabel
  have key : ∀ (names : List (Str × NameKind)), names.lookup y = some .globalImplicit →
      (names.map fun (z : Str × NameKind) => match z with | (n, k) => if (k == NameKind.free && env.scope.kind == .function && env.kindOf n == some .cell) = true then (n, NameKind.cell) else (n, k)).lookup y = some .globalImplicit := by
    intro names
    induction names with
    | nil => intro h; cases h
    | cons z r ih =>
      obtain ⟨n, j⟩ := z
      intro h
      rw [List.lookup_cons] at h
      rw [List.map_cons, List.lookup_cons]
      by_cases hc : (j == NameKind.free && env.scope.kind == .function && env.kindOf n == some .cell) = true
      · simp only [hc, if_true]
        cases e : y == n with
        | true =>
          rw [e] at h
          have h : j = .globalImplicit := Option.some.inj h
          rw [h] at hc
          simp at hc
        | false => rw [e] at h; exact ih h
      · simp only [hc, Bool.false_eq_true, if_false]
        cases e : y == n with
        | true => rw [e] at h; exact h
        | false => rw [e] at h; exact ih h
  exact key scope.names h
noncomputable def zh0 (sc : Scope) (N : List Str) (scope : Scope) (x : Str) : Bool :=
  decide (scope.kind = .function) && (decide (scope.names.lookup x = some .local) || decide (scope.names.lookup x = some .cell)) && scope.names.all (fun y => !decide (y.2 = .local) || decide (scope.names.lookup y.1 = some .local)) &&
  decide (scope.names.filter (fun y => y.2 == .cell) = if scope.names.lookup x = some .cell then [(x, .cell)] else []) &&
  scope.names.all (fun y => !decide (y.2 = .free) || (decide (sc.names.lookup y.1 = some .cell) || decide (sc.names.lookup y.1 = some .free))) && N.all (fun y => !decide (scope.names.lookup y = some .local) || decide (y = x)) &&
  decide (scope.names.lookup ("" : Str) = Option.none) && decide ((x :: zj9 x N).Nodup)
theorem zcs {scope sc : Scope} {N : List Str} {x : Str} (hs : X.env.scope = sc) (hN : X.N = N) (h : zh0 sc N scope x = true) : CompSc X scope x := by
  subst hs hN
  simp only [zh0, Bool.and_eq_true, decide_eq_true_eq, List.all_eq_true, Bool.or_eq_true, Bool.not_eq_true', decide_eq_false_iff_not] at h
  obtain ⟨⟨⟨⟨⟨⟨⟨h1, h2⟩, h3⟩, h4⟩, h5⟩, h6⟩, h7⟩, h8⟩ := h
  exact ⟨h1, h2, fun y hy e => (h3 y hy).resolve_left fun z => z e, h4, fun y hy e => (h5 y hy).resolve_left fun z => z e, fun y hy e => (h6 y hy).resolve_left fun z => z e, h7, h8⟩
end
end L2.LW
set_option maxHeartbeats 4000000
namespace L2.LW
open PySem PySem.Spec PyProof.Rows
section
variable {Pg : Program} {w : World} {K : PySem.W.Frag} {mg : Str → Option Value} {base : Heap} {f : Addr} {fd : FuncData} {ps : List Str} {P : Nat → Option Fn} {fuel i n k : Nat}
theorem zgh {io : List Nat} (h : ∀ ds, zah P fuel n i ds = Option.none) : FnOk Pg w K mg base CX0 k f fd ps (spA K (zah P fuel n) i io) := by
  have no : ∀ vs H Q E, ¬ spA K (zah P fuel n) i io vs H Q E := fun vs H Q E zz4 => by
    obtain ⟨W, ds, r, outs, _, _, e, _⟩ := zz4
    rw [h ds] at e; cases e
  exact ⟨fun vs H Q E z => absurd z (no vs H Q E), fun A outer s H args us vs Q E _ _ _ _ z => absurd z (no vs H Q E)⟩
theorem zkU {io : List Nat} : FnOk Pg w K mg base CX0 k f fd ps (spA K (zah P fuel 0) i io) := zgh fun _ => rfl
theorem zad {io : List Nat} (h : P i = Option.none) : FnOk Pg w K mg base CX0 k f fd ps (spA K (zah P fuel (n + 1)) i io) := zgh fun ds => by rw [zah, h]; rfl
theorem zmW {H : Hp} {a : Addr} {ns : List Int} {E : XK} (h : zbO P fuel n i [.lst (ns.map D.int)] = some (.val (.bl true))) (hS : SqL K H a (ns.map V.int)) : spA K (zah P fuel n) i [] [.ref a] H (fun v _ => v = .bl true) E := by
  refine ⟨fun _ => False, [.lst (ns.map D.int)], .val (.bl true), [], fun _ z => z.elim, (Reps.cons (.lst ?_ (.ints ns)) .nil).get', zge h, fun v H' _ _ r => ?_⟩
  · rcases hS with hS | hS
    · exact .inl ⟨fun z => z, hS⟩
    · exact .inr hS
  · cases r with
    | val r => cases r; rfl
end
end L2.LW
set_option maxHeartbeats 4000000
set_option maxHeartbeats 4000000
namespace L2.LW
open PySem PySem.Spec PyProof.Rows
inductive ArgOk (K : PySem.W.Frag) (ρ : LW.Env) (σ : St) (H H' : Hp) : AV → V → Prop where
  | e {d : D} {v : V} (h : ∀ W, Rep K W H' d v) : ArgOk K ρ σ H H' (.e d) v
  | l {ds : List D} {a : Addr} {xs : List V} (e : SqL K H' a xs ∧ Rd H' a (.lst xs) ∨ zqC K a xs) (r : ∀ W, Reps K W H' ds xs) : ArgOk K ρ σ H H' (.l ds) (.ref a)
  | s {i : Nat} {x : SV} {d : D} {a : Addr} (h : ρ[i]? = some (some x)) (c : x.cell = some d) (k : ziN d = true) (e : σ[i]? = some (some (.ref a))) : ArgOk K ρ σ H H' (.s i d) (.ref a)
  | n {t : Bool} {a : Addr} {o : HO} (h : H a = Option.none) (e : H' a = some o) (r : ∀ W, ORep K W H' (.dct t [] []) o) : ArgOk K ρ σ H H' (.n t) (.ref a)
theorem ArgOk.same {K : PySem.W.Frag} {ρ : LW.Env} {σ : St} {H H' H'' : Hp} {x : AV} {v : V} (h : ArgOk K ρ σ H H' x v) (s : Same H' H'') : ArgOk K ρ σ H H'' x v := by
  cases h with
  | e h => exact .e fun W => (h W).ext (.same s)
  | l e r =>
    refine .l ?_ fun W => (r W).ext (.same s)
    rcases e with ⟨e1, e2⟩ | e
    · refine .inl ⟨s.seq e1, ?_⟩
      rcases e2 with e2 | ⟨o, e2⟩
      · exact .inl (s _ _ e2)
      · exact .inr ⟨o, s _ _ e2⟩
    · exact .inr e
  | s h c k e => exact .s h c k e
  | n h e r => exact .n h (s _ _ e) fun W => (r W).ext (.same s)
theorem ArgOk.back {K : PySem.W.Frag} {ρ : LW.Env} {σ : St} {H H' H'' : Hp} {x : AV} {v : V} (h : ArgOk K ρ σ H' H'' x v) (s : Same H H') : ArgOk K ρ σ H H'' x v := by
  cases h with
  | e h => exact .e h
  | l e r => exact .l e r
  | s h c k e => exact .s h c k e
  | n h e r => exact .n (s.free h) e r
inductive OutsX (K : PySem.W.Frag) (W : Addr → Prop) (H : Hp) : List AV → List V → List D → Prop where
  | nil : OutsX K W H [] [] []
  | e {d : D} {v : V} {xs : List AV} {vs : List V} {os : List D} (t : OutsX K W H xs vs os) : OutsX K W H (.e d :: xs) (v :: vs) os
  | l {d : List D} {v : V} {xs : List AV} {vs : List V} {os : List D} (t : OutsX K W H xs vs os) : OutsX K W H (.l d :: xs) (v :: vs) os
  | s {i : Nat} {d : D} {a : Addr} {o : HO} {d' : D} {xs : List AV} {vs : List V} {os : List D} (e : H a = some o) (r : ORep K W H d' o) (t : OutsX K W H xs vs os) : OutsX K W H (.s i d :: xs) (.ref a :: vs) (d' :: os)
  | n {b : Bool} {v : V} {d' : D} {xs : List AV} {vs : List V} {os : List D} (t : OutsX K W H xs vs os) : OutsX K W H (.n b :: xs) (v :: vs) (d' :: os)
section
variable {X : Cx} {fn : Nat → List D → Option SV} {fa : Nat → List D → Option Ans} {fuel : Nat} {a b c e : Expr} {ca cb cc ce : E} {es : List Expr} {cs : Es} {ma : MA} {m : M} {pos p : Pos} {x : Str} {st : Stmt} {sts sts' : List Stmt} {s : S} {ss s1 s2 : Ss}
theorem OutsX.plain {K : PySem.W.Frag} {W W' : Addr → Prop} {H : Hp} {xs : List AV} {vs : List V} {os : List D} (h : OutsX K W H xs vs os) (p : os.all zbr = true) : OutsX K W' H xs vs os := by
  induction h with
  | nil => exact .nil
  | e _ ih => exact .e (ih p)
  | l _ ih => exact .l (ih p)
  | s e r _ ih =>
    simp only [List.all_cons, Bool.and_eq_true] at p
    exact .s e (r.plain p.1) (ih p.2)
  | n _ ih =>
    simp only [List.all_cons, Bool.and_eq_true] at p
    exact .n (ih p.2)
theorem Res.fine {K : PySem.W.Frag} {W W' : Addr → Prop} {H H' : Hp} {r : SV} {v : V} (h : Res K W' H H' r v) (p : r.fine = true) : Res K W H H' r v := by
  cases h with
  | val h => exact .val (h.plain p)
  | new h e r => exact .new h e (r.plain p)
  | see h e r => cases p
theorem SPost.wf' {K : PySem.W.Frag} {W W' : Addr → Prop} {ρ ρ' : LW.Env} {σ σ' : St} {H H' : Hp} (p : SPost K W ρ σ H W' ρ' σ' H') : Wf W' H' := p.r.wf
end
end L2.LW
set_option maxHeartbeats 4000000
namespace L2.LW
open PySem PySem.Spec PyProof.Rows
section
variable {X : Cx} {fn : Nat → List D → Option SV} {fa : Nat → List D → Option Ans} {fuel : Nat} {st : Stmt} {s : S}
theorem zct : ∀ (r : List Int) (n : Int), (∀ x ∈ n :: r, x ≤ r.foldl max n) ∧ r.foldl max n ∈ n :: r
  | [], n => by simp
  | x :: r, n => by
    obtain ⟨h1, h2⟩ := zct r (max n x)
    rw [List.foldl_cons]
    refine ⟨fun y hy => ?_, ?_⟩
    · have h0 := h1 (max n x) List.mem_cons_self
      rcases List.mem_cons.mp hy with rfl | hy
      · omega
      · rcases List.mem_cons.mp hy with rfl | hy
        · omega
        · exact h1 y (List.mem_cons_of_mem _ hy)
    · rcases List.mem_cons.mp h2 with e | e
      · rw [e]
        rcases Int.le_total n x with q | q
        · rw [Int.max_eq_right q]; simp
        · rw [Int.max_eq_left q]; simp
      · exact List.mem_cons_of_mem _ (List.mem_cons_of_mem _ e)
theorem zfK {its : List Value} {ns : List Int} (hi : IntsAre its ns) : ∃ ps : List (Int × Tok), its = ps.map (fun p => Value.int p.1 p.2) ∧ ns = ps.map (·.1) := by
  induction hi with
  | nil => exact ⟨[], rfl, rfl⟩
  | cons n t h ih =>
    obtain ⟨ps, e1, e2⟩ := ih
    exact ⟨(n, t) :: ps, by rw [e1]; rfl, by rw [e2]; rfl⟩
theorem zh1 {its : List Value} {ns : List Int} (hi : IntsAre its ns) : ∃ xs : Array (Int × Tok), its.toArray = intItems xs ∧ xs.size = ns.length ∧ ∀ i, (h : i < ns.length) → numAt xs i = ns[i] := by
  obtain ⟨ps, rfl, rfl⟩ := zfK hi
  refine ⟨ps.toArray, by simp [intItems], by simp, fun i h => ?_⟩
  have h' : i < ps.length := by simpa using h
  simp [numAt, h']
theorem zkV (hc : X.calm = true) : CallR X (.builtin "max") (VR X.K (zai .maxL)) := by
  rintro pins s σ H xs us Q I rv ⟨W, ds, r, wf, hs, hf, q⟩
  replace hf : zkC ds = some r := hf
  unfold zkC at hf
  split at hf
  · rename_i l
    rw [jo1] at hf
    obtain ⟨ns, e1, hf⟩ := hf
    cases ns with
    | nil => cases hf
    | cons n ns =>
      cases hf
      cases hs with
      | cons h1 t =>
        cases t
        obtain ⟨p, ys, rfl, hp, rp⟩ := h1.lst
        have ey := rp.ofInts e1
        subst ey
        obtain ⟨u, rfl, ru⟩ := zfA rv
        cases ru
        obtain ⟨its, rv', pl, hz⟩ := I.list hp
        obtain ⟨xs, x1, x2, x3⟩ := zh1 (zcd rv')
        have hpl := pl.isList
        rw [x1] at hpl
        refine max_intList (I.ok.hd hc) hpl (by rw [x2]; simp) fun v h' tk hv hk => ?_
        obtain ⟨t, rfl⟩ := intItems_at hv
        obtain ⟨g1, g2⟩ := argBest_gt (numAt xs) (xs.size - 1)
        have hlen : xs.size - 1 = ns.length := by rw [x2]; simp
        rw [hlen] at g1 g2 ⊢
        generalize argBest (fun i j => decide (numAt xs i > numAt xs j)) ns.length = b at g1 g2 ⊢
        have eb : numAt xs b = ns.foldl max n := by
          obtain ⟨m1, m2⟩ := zct ns n
          have hb : b < (n :: ns).length := by simp; omega
          obtain ⟨j, hj, ej⟩ := List.getElem_of_mem m2
          have q1 := m1 _ (List.getElem_mem hb)
          have q2 := g2 j (by simp at hj; omega)
          rw [x3 j hj, ej] at q2
          rw [x3 b hb] at q2 ⊢
          omega
        rw [eb]
        exact ⟨.int _, H, I.kept (t' := tk) hk, ⟨_, rfl⟩, q _ H (.refl H) (.val (.int _))⟩
  · cases hf
end
end L2.LW
set_option maxHeartbeats 4000000
namespace L2.LW
open PySem PySem.W PyProof.Rows
section
variable {n : Nat} {r : Nat → Int} {cmp : Nat → Nat → (Bool → Shared → Prop) → Shared → Prop} {I : Shared → Prop}
noncomputable def kk (r : Nat → Int) (p : Array Nat) (i : Nat) : Int := r (p.getD i 0)
structure Pm (n : Nat) (r : Nat → Int) (p : Array Nat) : Prop where
  perm : p.Perm (List.range n).toArray
  size : p.size = n
  lt : ∀ i, i < n → p.getD i 0 < n
  inj : ∀ i j, i < n → j < n → i ≠ j → kk r p i ≠ kk r p j
theorem Pm.of {p : Array Nat} (hr : ∀ i j, i < n → j < n → i ≠ j → r i ≠ r j) (h : p.Perm (List.range n).toArray) : Pm n r p := by
  have hs : p.size = n := by have := h.size_eq; simpa using this
  have hl : p.toList.Perm (List.range n) := Array.perm_iff_toList_perm.mp h
  have hlt : ∀ i, i < n → p.getD i 0 < n := fun i hi => by
    have hi' : i < p.size := by omega
    have : p[i] ∈ p.toList := by simp
    have := hl.mem_iff.mp this
    rw [List.mem_range] at this
    simpa [Array.getD, hi'] using this
  have hnd : p.toList.Nodup := hl.nodup_iff.mpr List.nodup_range
  refine ⟨h, hs, hlt, fun i j hi hj ne => hr _ _ (hlt i hi) (hlt j hj) fun e => ne ?_⟩
  have hi' : i < p.size := by omega
  have hj' : j < p.size := by omega
  simp only [Array.getD, hi', hj', dif_pos] at e
  have e' : p.toList[i]'(by simpa using hi') = p.toList[j]'(by simpa using hj') := by simpa using e
  exact (List.getElem_inj hnd).mp e'
noncomputable def Up (r : Nat → Int) (p : Array Nat) (k : Nat) : Prop := ∀ i j, i < j → j < k → kk r p i < kk r p j
noncomputable def Dn (r : Nat → Int) (p : Array Nat) (k : Nat) : Prop := ∀ i j, i < j → j < k → kk r p j < kk r p i
theorem Up.one {p : Array Nat} {k : Nat} (h : k ≤ 1) : Up r p k := fun i j h1 h2 => by omega
theorem Dn.one {p : Array Nat} {k : Nat} (h : k ≤ 1) : Dn r p k := fun i j h1 h2 => by omega
theorem Up.next {p : Array Nat} {k : Nat} (h : Up r p k) (hk : 1 ≤ k) (e : kk r p (k - 1) < kk r p k) : Up r p (k + 1) := fun i j h1 h2 => by
  by_cases hj : j = k
  · subst hj
    by_cases hi : i = j - 1
    · rw [hi]; exact e
    · exact Int.lt_trans (h i (j - 1) (by omega) (by omega)) e
  · exact h i j h1 (by omega)
theorem Dn.next {p : Array Nat} {k : Nat} (h : Dn r p k) (hk : 1 ≤ k) (e : kk r p k < kk r p (k - 1)) : Dn r p (k + 1) := fun i j h1 h2 => by
  by_cases hj : j = k
  · subst hj
    by_cases hi : i = j - 1
    · rw [hi]; exact e
    · exact Int.lt_trans e (h i (j - 1) (by omega) (by omega))
  · exact h i j h1 (by omega)
variable (hc : ∀ i j C s, i < n → j < n → I s → (∀ s', I s' → C (decide (r i < r j)) s') → cmp i j C s)
include hc
omit hc in
omit hc in
omit hc in
omit hc in
end
end L2.LW
set_option maxHeartbeats 4000000
set_option maxHeartbeats 4000000
set_option maxHeartbeats 4000000
namespace L2.LW
open PySem PySem.Spec PySem.W PySem.Calls PyProof.Rows
noncomputable def RawD (h : Heap) (d : Addr) (tb : Array DictEntry) (ep : Nat) : Prop := ∃ o, h.get? d = some o ∧ o.ExactDict ∧ o.data = .dict tb ep
theorem RawD.at {h h2 : Heap} {d : Addr} {tb : Array DictEntry} {ep : Nat} (x : RawD h d tb ep) (e : ∀ o, h.get? d = some o → h2.get? d = some o) : RawD h2 d tb ep := let ⟨o, ho, r⟩ := x; ⟨o, e _ ho, r⟩
theorem RawD.lt {h : Heap} {d : Addr} {tb : Array DictEntry} {ep : Nat} (x : RawD h d tb ep) : d < h.objs.size := let ⟨_, ho, _⟩ := x; Heap.lt_size ho
end L2.LW
set_option maxHeartbeats 4000000
set_option maxHeartbeats 4000000
set_option maxHeartbeats 4000000
namespace L2.LW
open PySem PySem.Spec PySem.W PySem.Calls PyProof.Rows
noncomputable def zg7 (i : Nat) : Int := reduceHash (Builtin.Tuple.tupleHashOf [hashInt ((i / 8 : Nat) : Int), hashInt ((i % 8 : Nat) : Int)])
end L2.LW
set_option maxHeartbeats 4000000
set_option maxHeartbeats 4000000
set_option maxHeartbeats 4000000
namespace L2.LW
open PySem PySem.Spec PySem.W PySem.Calls PyProof.Rows
section
variable {X : Cx} {fn : Nat → List D → Option SV}
theorem zmX : OpR X (compareOp .Eq) (VR2 X.K (zai .eqS)) := by
  rintro pins s σ H x y v u Q I rx ry ⟨W, ds, r, wf, hs, hf, q⟩
  obtain ⟨d, e, rfl, h1, h2⟩ := pr2 hs
  replace hf : zou [d, e] = some r := hf
  unfold zou at hf
  split at hf
  case h_2 => cases hf
  rename_i a b z
  cases z
  cases hf
  cases h1.str; cases h2.str
  have e : decide (V.str a = V.str b) = decide (a = b) := by simp
  exact zp5 pins s σ H _ _ v u Q I rx ry ⟨rfl, by rw [e]; exact q _ H (.refl H) (.val (.bl _))⟩
theorem zmY : OpR X (compareOp .NotEq) (VR2 X.K (zai .neS)) := by
  rintro pins s σ H x y v u Q I rx ry ⟨W, ds, r, wf, hs, hf, q⟩
  obtain ⟨d, e, rfl, h1, h2⟩ := pr2 hs
  replace hf : zov [d, e] = some r := hf
  unfold zov at hf
  split at hf
  case h_2 => cases hf
  rename_i a b z
  cases z
  cases hf
  cases h1.str; cases h2.str
  have e : decide (V.str a = V.str b) = decide (a = b) := by simp
  exact zp6 pins s σ H _ _ v u Q I rx ry ⟨rfl, by rw [e]; exact q _ H (.refl H) (.val (.bl _))⟩
end
end L2.LW
set_option maxHeartbeats 4000000
namespace L2.LW
open PySem PySem.Spec PySem.W PySem.Calls PyProof.Rows
noncomputable def Fly (l : List PySem.Env) (g : Heap) (H : Hp) (e : Addr) (c : Value) (h : Heap) : Prop :=
  ∃ B t, Heap.FlyingW B l e c (.ref t) h ∧ (∀ b o, ((∃ o0, g.get? b = some o0) ∨ H b ≠ Option.none) → b ∉ frs l → h.get? b = some o → B.get? b = some o) ∧ H e = Option.none
noncomputable def CX1 (P : Program) (w : World) : CXT := fun outer H s E e s' =>
  ∃ a c H', e = .ref a ∧ s'.os = s.os ∧ AllBare s'.gens ∧ Un (frs outer) [] H H' s.heap s'.heap ∧ HOk P w H' s'.heap ∧ Fly outer s.heap H' a c s'.heap ∧ E c Option.none H'
section
variable {P : Program} {w : World} {l : List PySem.Env} {H H' : Hp} {g h h' B : Heap} {e : Addr} {c t : Value}
theorem zmZ (ok : HOk P w H' h) (nf : ∀ b ∈ frs l, H' b = Option.none) (full : ∀ b o, H' b ≠ Option.none → b ∉ frs l → h.get? b = some o → h'.get? b = some o) : HOk P w H' h' := fun a o q =>
  (ok a o q).stay (fun b u z q2 => by
    have hb : H' b ≠ Option.none := by
      rcases z with rfl | z
      · rw [q]; exact fun z => nomatch z
      · rw [z]; exact fun z => nomatch z
    exact full b u hb (fun m => hb (nf b m)) q2) (fun _ z => z) fun _ _ z => z
theorem zqK (u : Un (frs l) [] H H' g h) (full : ∀ b o, (∃ o0, g.get? b = some o0) → b ∉ frs l → h.get? b = some o → h'.get? b = some o)
    (sl : ∀ b o, b ∈ frs l → h.get? b = some o → ∃ s, h'.get? b = some { o with slots := s }) : Un (frs l) [] H H' g h' where
  keep := fun b o q n hb hx => full b o ⟨o, q⟩ hb (u.keep b o q n hb hx)
  slot := fun b o q n hb hx => by
    obtain ⟨s1, e1⟩ := u.slot b o q n hb hx
    obtain ⟨s2, e2⟩ := sl b _ hb e1
    exact ⟨s2, e2⟩
  free := u.free
  there := fun b o q hx => by
    obtain ⟨o1, e1⟩ := u.there b o q hx
    by_cases hb : b ∈ frs l
    · obtain ⟨s2, e2⟩ := sl b _ hb e1
      exact ⟨_, e2⟩
    · exact ⟨_, full b o1 ⟨o, q⟩ hb e1⟩
  tups := u.tups
  frzs := u.frzs
  tbls := u.tbls
theorem zi6 (f : h.FunFrames B l) (k : h.UpToSlots h') : ∀ b o, b ∈ frs l → h.get? b = some o → ∃ s, h'.get? b = some { o with slots := s } := fun b o hb q => by
  obtain ⟨_, o1, e1, d1⟩ := f.mem hb
  rw [q] at e1
  cases e1
  exact k b o q d1
theorem obj_there {a : Addr} {o : HO} (x : ObjOk P w H h a o) : ∃ ob, h.get? a = some ob := by
  cases o with
  | lst xs => obtain ⟨_, _, _, _, e⟩ := x; exact ⟨_, e⟩
  | tup xs => obtain ⟨_, _, _, _, e, _⟩ := x; exact ⟨_, e⟩
  | dK kvs => obtain ⟨_, _, _, _, o, _, _, e, _⟩ := x; exact ⟨_, e⟩
  | dT kvs => obtain ⟨_, _, _, _, o, _, _, e, _⟩ := x; exact ⟨_, e⟩
  | set S n => obtain ⟨o, _, _, _, e, _⟩ := x; exact ⟨_, e⟩
  | ins C dx fs => obtain ⟨_, _, _, e, _⟩ := x; exact ⟨_, e⟩
  | own y => exact x
  | xd fs => obtain ⟨_, ⟨_, _, _, e, _⟩, _⟩ := x; exact ⟨_, e⟩
  | rng lo hi => obtain ⟨_, _, _, e⟩ := x; exact ⟨_, e⟩
  | frz ob u => obtain ⟨e, _⟩ := x; exact ⟨_, e⟩
  | tbl ps => exact ⟨_, show h.get? a = some _ from x⟩
  | met f y => exact ⟨_, show h.get? a = some _ from x⟩
  | ext φ => obtain ⟨_, e, _⟩ := x; exact e
end
section
variable {X : Cx} {pins : List (Addr × Obj)} {σ : St} {H : Hp} {s s' : Shared}
theorem Inv.flew {H' : Hp} {h' B : Heap} (I : Inv X pins σ H s) (os : s'.os = s.os) (bare : AllBare s'.gens) (u : Un (frs X.stack) [] H H' s.heap s'.heap) (ok : HOk X.prog X.w H' s'.heap)
    (fl : s'.heap.FunFrames B X.stack) (full : ∀ b o, ((∃ o0, s.heap.get? b = some o0) ∨ H' b ≠ Option.none) → b ∉ frs X.stack → s'.heap.get? b = some o → B.get? b = some o) (st : B.StaysIn h') (k : s'.heap.UpToSlots h') :
    Inv X pins σ H' { s' with heap := h' } ∧ Un (frs X.stack) [] H H' s.heap h' ∧ HOk X.prog X.w H' h' := by
  have nf : ∀ b ∈ frs X.stack, H' b = Option.none := fun b hb => by
    obtain ⟨_, o, ho, _⟩ := I.stack.mem hb
    exact u.free b o ho (I.stkFree b hb) (by simp)
  have u' : Un (frs X.stack) [] H H' s.heap h' := zqK u (fun b o q nb e => st b o (full b o (.inl q) nb e)) (zi6 fl k)
  have ok' : HOk X.prog X.w H' h' := zmZ ok nf fun b o q nb e => st b o (full b o (.inr q) nb e)
  exact ⟨I.call' (s' := { s' with heap := h' }) os u' ok' bare (fun b z => absurd z (by simp)), u', ok'⟩
end
section
variable {P : Program} {w : World} {K : PySem.W.Frag} {mg : Str → Option Value} {base : Heap} {N : List Str} {qual : Str} {scope : Scope} {f : Addr} {cd : Value} {A : Around} {outer : List PySem.Env} {s : Shared} {H : Hp} {E : XK}
theorem zh2 {pins : List (Addr × Obj)} {σ : St} {H1 H' : Hp} {s1 s' : Shared} {h' B : Heap} {a : Addr} {c : Value} {t : Addr} (I : Inv (zbo (CX1 P w) P w K mg base N qual scope f cd A outer s H E) pins σ H1 s1)
    (os : s'.os = s1.os) (bare : AllBare s'.gens) (u : Un (frs (envOfC qual scope s.heap.objs.size f cd :: outer)) [] H1 H' s1.heap s'.heap) (ok : HOk P w H' s'.heap) (fl : s'.heap.FunFrames B (envOfC qual scope s.heap.objs.size f cd :: outer))
    (full : ∀ b o, ((∃ o0, s1.heap.get? b = some o0) ∨ H' b ≠ Option.none) → b ∉ frs (envOfC qual scope s.heap.objs.size f cd :: outer) → s'.heap.get? b = some o → B.get? b = some o)
    (fl' : Heap.FlyingW B outer a c (.ref t) h') (k : s'.heap.UpToSlots h') (he : H' a = Option.none) (q : E c Option.none H') : CX1 P w outer H s E (.ref a) { s' with heap := h' } := by
  obtain ⟨J, u', ok'⟩ := Inv.flew (h' := h') I os bare u ok fl full fl'.1 k
  have nf : ∀ b, H' b ≠ Option.none → b ∉ frs (envOfC qual scope s.heap.objs.size f cd :: outer) := fun b hb hm => by
    obtain ⟨_, o, ho, _⟩ := I.stack.mem hm
    exact hb (u.free b o ho (I.stkFree b hm) (by simp))
  refine ⟨a, c, H', rfl, J.os, J.bare, J.base, ok', ⟨B, t, fl', fun b o hb nb e => ?_, he⟩, q⟩
  have fin : ∀ o2, s'.heap.get? b = some o2 → b ∉ frs (envOfC qual scope s.heap.objs.size f cd :: outer) → ((∃ o0, s1.heap.get? b = some o0) ∨ H' b ≠ Option.none) → B.get? b = some o := fun o2 e2 n2 z => by
    have e3 := full b o2 z n2 e2
    have e4 := fl'.1 b o2 e3
    have e4 : h'.get? b = some o2 := e4
    have e5 : h'.get? b = some o := e
    rw [e4] at e5
    cases e5
    exact e3
  rcases hb with ⟨o0, e0⟩ | hb
  · obtain ⟨o1, e1⟩ := I.base.there b o0 e0 (by simp [zbo])
    obtain ⟨o2, e2⟩ := u.there b o1 e1 (by simp)
    refine fin o2 e2 (fun hm => ?_) (.inl ⟨o1, e1⟩)
    rcases List.mem_cons.mp (I.stkSub b hm) with z | z
    · have l1 : b < s.heap.objs.size := Heap.lt_size e0
      have l2 : s.heap.objs.size ≤ b := by rw [z]; exact I.ok.above
      exact absurd l1 (Nat.not_lt.mpr l2)
    · exact nb z
  · cases z : H' b with
    | none => exact absurd z hb
    | some v =>
      obtain ⟨o2, e2⟩ := obj_there (ok b v z)
      exact fin o2 e2 (nf b hb) (.inr hb)
theorem zbT : zcR (CX1 P w) (zbo (CX1 P w) P w K mg base N qual scope f cd A outer s H E) E := by
  rintro pins σ H1 s1 e s' I ⟨a, c, H', rfl, os, bare, un, ok, ⟨B, t, fl, full, he⟩, q⟩
  exact wpAny_leaves_onW I.ok.frames rfl fl fun h' fl' k => zh2 I os bare un ok fl.2.2.1 full fl' k he q
theorem zeN {pins : List (Addr × Obj)} {σ : St} {H1 : Hp} {s1 : Shared} {h1 : Heap} {a : Addr} {c : Value} {args : List Value} (I : Inv (zbo (CX1 P w) P w K mg base N qual scope f cd A outer s H E) pins σ H1 s1)
    (m : Heap.MadeExcOf s1.heap h1 a c args) (q : E c Option.none H1) : (zbo (CX1 P w) P w K mg base N qual scope f cd A outer s H E).xe (.ref a) { s1 with heap := h1 } := by
  have hin : ∀ env ∈ (envOfC qual scope s.heap.objs.size f cd :: outer), ∀ b, env.frame = some b → b ∈ (envOfC qual scope s.heap.objs.size f cd :: outer).filterMap (·.frame) := fun env he b hb => List.mem_filterMap.mpr ⟨env, he, hb⟩
  have he : H1 a = Option.none := by
    cases z : H1 a with
    | none => rfl
    | some v =>
      obtain ⟨o2, e2⟩ := obj_there (I.hok a v z)
      rw [m.new] at e2
      cases e2
  have ff := funFrames_hide (as := frs (envOfC qual scope s.heap.objs.size f cd :: outer)) I.stack hin
  refine wpAny_leaves_madeW (h := s1.heap) (base := hideAll s1.heap (frs (envOfC qual scope s.heap.objs.size f cd :: outer))) I.ok.frames rfl (fun b o e => of_hideAll _ e) ff m fun h' t fl' tp nt k => ?_
  refine zh2 (s' := { s1 with heap := h1 }) I rfl I.bare (Un.kept m.keeps) (I.hok.kept m.keeps) (ff.of_keeps fun b o e _ => ⟨o, m.keeps b o e, rfl⟩) (fun b o z nb e => ?_) fl' k he q
  have e1 : s1.heap.get? b = some o := by
    have old : ∃ o1, s1.heap.get? b = some o1 := by
      rcases z with z | z
      · exact z
      · cases z2 : H1 b with
        | none => exact absurd z2 z
        | some v => exact obj_there (I.hok b v z2)
    obtain ⟨o1, e1⟩ := old
    have e2 : h1.get? b = some o1 := m.keeps b o1 e1
    have e3 : h1.get? b = some o := e
    rw [e2] at e3
    cases e3
    exact e1
  exact hideAll_get _ e1 nb
end
end L2.LW
set_option maxHeartbeats 4000000
namespace L2.LW
open PySem PySem.Spec PySem.W PySem.Calls PyProof.Rows
noncomputable def zqL : List Value := [.type "ValueError", .type "Exception", .type "BaseException", .type "object"]
noncomputable abbrev ziA (K : PySem.W.Frag) (C : Addr) : Prop := excIn K C zqL "ValueError.__new__" = true
theorem zkW {K : PySem.W.Frag} {h : Heap} {C : Addr} (X : K.In h) (q : ziA K C) : ∃ bm N nm qn bs hdct sn sub ab col dd k0 k1 k2 k3 k5 mN,
    h.get? C = some (excClassObj nm qn C N bs bm hdct sn sub ab col dd k0 k1 k2 k3 k5 "ValueError.__new__") ∧ h.Ns N mN ∧ mN "__init__" = Option.none ∧ OwnTail h zqL bm := by
  have q' : excIn K C zqL "ValueError.__new__" = true := q
  unfold excIn at q'
  split at q'
  case h_2 => cases q'
  rename_i dd cd sl ho
  split at q'
  case h_2 => cases q'
  rename_i C2 bm j0 j1 j2 j3 n j5 hm hs
  simp only [Bool.and_eq_true, beq_iff_eq, Bool.not_eq_true'] at q'
  obtain ⟨⟨⟨⟨⟨rfl, rfl⟩, hdel⟩, ht⟩, hok⟩, hni⟩ := q'
  rcases cd with ⟨nm, bs, mro, ns, qn, hd, sn, sub, ab, col, del⟩
  dsimp only at hm hdel hok hni
  subst hm hdel
  have es : sl = #[j0, j1, j2, j3, some (.builtin "ValueError.__new__"), j5] := by
    cases sl
    simpa using hs
  subst es
  exact ⟨_, _, _, _, _, _, _, _, _, _, _, _, _, _, _, _, _, X _ _ ho, .of_isNs (isNs_of_in X hok), nsMap_none_of_in X hok hni, tail_of_in X ht⟩
noncomputable def zkX (X : Cx) (E : XK) : Prop := ∀ (pins : List (Addr × Obj)) (σ : St) (H : Hp) (s : Shared) (h : Heap) (a : Addr) (c : Value) (args : List Value), Inv X pins σ H s → Heap.MadeExcOf s.heap h a c args → E c Option.none H → X.xe (.ref a) { s with heap := h }
section
variable {X : Cx} {E : XK} {x : Str} {C : Addr} {e : Expr} {te : TE} {np cpos pos : Pos}
noncomputable def zm0 (E : XK) (C : Addr) (te : TE) : TS := fun _ σ H => te σ H fun _ H1 => E (.ref C) Option.none H1
theorem zgi (hc : X.calm = true) (hM : zkX X E) (hq : ziA X.K C) (hg : Gl X x) (hm : X.mg x = some (.ref C)) (he : PE X e te) (hdb : (x == ("__debug__" : Str)) = false := by decide)
    (hst : starEach [e] X.env = (false, eval e X.env) :: starEach [] X.env := by rfl) : PS X (.Raise (some (.Call (.Name x np) [e] [] cpos)) Option.none pos) (zm0 E C te) := by
  intro pins s σ H D I h
  obtain ⟨bm, N, nm, qn, bs, hdct, sn, sub, ab, col, dd, k0, k1, k2, k3, k5, mN, hC, hN, hni, T⟩ := zkW I.mod.kin hq
  refine wpAny_Raise_call_subT (C := C) (nm := nm) (q := qn) (N := N) (bs := bs) (bm := bm) (hdct := hdct) (sn := sn) (sub := sub) (ab := ab) (col := col) (dd := dd) (k0 := k0) (k1 := k1) (k2 := k2) (k3 := k3) (k5 := k5)
    PySem.F.excBase_ValueError (mN := mN) (T.hasType PySem.F.excBase_ValueError.hasBase) (I.ok.hd hc) (by rw [hst]; rfl) hni (zcQ I hg hm ⟨rfl, ?_⟩ hdb)
  rw [hst]
  refine evalArgs_plain (spliced_cons (thn (he pins s σ H _ I h) fun u s1 ⟨v, H1, I1, r1, q1⟩ => spliced_nil ⟨rfl, by size_fits, ?_, ?_, ?_, fun h' a m => ?_⟩))
  · exact I1.bk _ _ hC
  · exact hN.keeps I1.bk
  · exact T.keeps I1.bk
  · exact hM pins σ H1 s1 h' a _ _ I1 m q1
end
end L2.LW
set_option maxHeartbeats 4000000
namespace L2.LW
open PySem PySem.Spec PySem.W PySem.Calls PyProof.Rows
noncomputable def FlXOk (K : PySem.W.Frag) (cl : Nat → Value) (E : XK) (W : Addr → Prop) (ρ : LW.Env) (σ : St) (W' : Addr → Prop) (ρ' : LW.Env) (σ' : St) (H' : Hp) (D : Ends) : FlX → Prop
  | .fl f => FlOk K W ρ σ W' ρ' σ' H' D f
  | .ex c => E (cl c) Option.none H'
noncomputable def tX (K : PySem.W.Frag) (cl : Nat → Value) (E : XK) (ex : LW.Env → Option (FlX × LW.Env)) : TS := fun D σ H => ∃ W ρ x, R K W ρ σ H ∧ ex ρ = some x ∧ ∀ W' σ' H', SPost K W ρ σ H W' x.2 σ' H' → FlXOk K cl E W ρ σ W' x.2 σ' H' D x.1
theorem FlXOk.back {K : PySem.W.Frag} {cl : Nat → Value} {E : XK} {W W1 W2 : Addr → Prop} {ρ ρ1 ρ2 : LW.Env} {σ σ1 σ2 : St} {H H1 H2 : Hp} {D : Ends} {fl : FlX} (p : SPost K W ρ σ H W1 ρ1 σ1 H1) (h : FlXOk K cl E W ρ σ W2 ρ2 σ2 H2 D fl) : FlXOk K cl E W1 ρ1 σ1 W2 ρ2 σ2 H2 D fl := by
  cases fl with
  | fl f => exact FlOk.back (ρ2 := ρ2) p h
  | ex c => exact h
structure IX (X : Cx) (cl : Nat → Value) (E : XK) (ex : LW.Env → Option (FlX × LW.Env)) (st : Stmt) : Prop where
  h : PS X st (tX X.K cl E ex)
structure IXs (X : Cx) (cl : Nat → Value) (E : XK) (ex : LW.Env → Option (FlX × LW.Env)) (st : List Stmt) : Prop where
  h : PSs X st (tX X.K cl E ex)
noncomputable def spX (K : PySem.W.Frag) (cl : Nat → Value) (fa : Nat → List D → Option Ans) (i : Nat) : Sp := fun vs H Q E => ∃ W ds, Wf W H ∧ Reps K W H ds vs ∧
  ((∃ r, fa i ds = some (.ok r []) ∧ ∀ v H', Same H H' → Res K W H H' r v → Q v H') ∨ ∃ c, fa i ds = some (.ex c) ∧ ∀ H', Same H H' → E (cl c) Option.none H')
section
variable {X : Cx} {cl : Nat → Value} {E : XK} {fa : Nat → List D → Option Ans} {fuel : Nat} {st : Stmt} {sts sts' : List Stmt} {s : S} {t : T} {ts t1 t2 : Ts} {e c : Expr} {es : List Expr} {cs : Es} {cc : LW.E} {x y : Str} {p pos : Pos}
theorem zav : IXs X cl E (za9 fa fuel .nil) [] := .mk <| zfw.imp fun D σ H zz3 => by
  obtain ⟨W, ρ, x, hR, hx, q⟩ := zz3
  simp only [za9] at hx; cases hx; exact q W σ H (.same hR (.refl H))
theorem zd7 : IXs X cl E (za9 fa fuel (.cons .stuck .nil)) sts := .mk fun pins s σ H D I zz6 => by
  obtain ⟨W, ρ, x, hR, hx, q⟩ := zz6
  simp only [za9, exT] at hx; cases hx
theorem zaj (h1 : IX X cl E (exT fa fuel t) st) (h2 : IXs X cl E (za9 fa fuel ts) sts) : IXs X cl E (za9 fa fuel (.cons t ts)) (st :: sts) :=
  .mk <| (zcJ h1.h h2.h).imp fun D σ H zz3 => by
    obtain ⟨W, ρ, x, hR, hx, q⟩ := zz3
    simp only [za9, jo1] at hx
    obtain ⟨⟨fl, ρ1⟩, e1, e2⟩ := hx
    refine ⟨W, ρ, (fl, ρ1), hR, e1, fun W1 σ1 H1 p1 => ?_⟩
    cases fl with
    | ex c => cases e2; exact q W1 σ1 H1 p1
    | fl f =>
      cases f with
      | nx => exact ⟨W1, ρ1, x, p1.r, e2, fun W2 σ2 H2 p2 => FlXOk.back p1 (q W2 σ2 H2 (p1.trans p2 hR))⟩
      | br => cases e2; exact q W1 σ1 H1 p1
      | ct => cases e2; exact q W1 σ1 H1 p1
      | rt r => cases e2; exact q W1 σ1 H1 p1
theorem zkY (h : IS X (exS fa fuel s) st) : IX X cl E (exT fa fuel (.pl s)) st := .mk <| h.h.imp fun D σ H zz3 => by
  obtain ⟨W, ρ, x, hR, hx, q⟩ := zz3
  simp only [exT, jo2] at hx
  obtain ⟨⟨fl, ρ1⟩, e1, rfl⟩ := hx
  exact ⟨W, ρ, (fl, ρ1), hR, e1, q⟩
theorem zbU {C : Addr} {te : TE} (k : Nat) {np cpos : Pos} (hc : X.calm = true) (hM : zkX X E) (hq : ziA X.K C) (hcl : cl k = .ref C) (hg : Gl X x) (hm : X.mg x = some (.ref C)) (he : PE X e te) (hte : ∀ σ H Q, (∀ v, Q v H) → te σ H Q) (hdb : (x == ("__debug__" : Str)) = false)
    (hst : starEach [e] X.env = (false, eval e X.env) :: starEach [] X.env) : IX X cl E (exT fa fuel (.raise k)) (.Raise (some (.Call (.Name x np) [e] [] cpos)) Option.none pos) :=
  .mk <| (zgi hc hM hq hg hm he hdb hst).imp fun D σ H zz3 => by
    obtain ⟨W, ρ, z, hR, hz, q⟩ := zz3
    simp only [exT] at hz
    cases hz
    refine hte σ H _ fun v => ?_
    have := q W σ H (.same hR (.refl H))
    rw [← hcl]
    exact this
theorem zgF (hc : IT X (prj fa) c cc) (h1 : IXs X cl E (za9 fa fuel t1) sts) (h2 : IXs X cl E (za9 fa fuel t2) sts') : IX X cl E (exT fa fuel (.ifs cc t1 t2)) (.If c sts sts' pos) :=
  .mk <| (zl5 hc.h h1.h h2.h).imp fun D σ H zz3 => by
    obtain ⟨W, ρ, y, hR, hy, q⟩ := zz3
    simp only [exT, jo1] at hy
    obtain ⟨k, e1, e2⟩ := hy
    refine ⟨W, ρ, k, hR, e1, fun H1 w1 => ?_⟩
    have p1 := SPost.same hR w1
    show if k = true then tX X.K cl E (za9 fa fuel t1) D σ H1 else tX X.K cl E (za9 fa fuel t2) D σ H1
    cases k with
    | true => rw [if_pos rfl] at e2 ⊢; exact ⟨W, ρ, y, p1.r, e2, fun W2 σ2 H2 p2 => FlXOk.back p1 (q W2 σ2 H2 (p1.trans p2 hR))⟩
    | false => rw [if_neg Bool.false_ne_true] at e2 ⊢; exact ⟨W, ρ, y, p1.r, e2, fun W2 σ2 H2 p2 => FlXOk.back p1 (q W2 σ2 H2 (p1.trans p2 hR))⟩
noncomputable def tCx (K : PySem.W.Frag) (cl : Nat → Value) (E : XK) (fa : Nat → List D → Option Ans) (i : Nat) (cs : Es) : TE := fun σ H Q => ∃ W ρ a, R K W ρ σ H ∧ zhz fa i cs ρ = some a ∧ match a with
  | .ok r [] => ∀ v H', Same H H' → Res K W H H' r v → Q v H'
  | .ok _ _ => False
  | .ex c => ∀ H', Same H H' → E (cl c) Option.none H'
theorem zaE {k i : Nat} {f : Addr} {fd : FuncData} {ps : List Str} (F : FnOk X.prog X.w X.K X.mg X.base (CX1 X.prog X.w) k f fd ps (spX X.K cl fa i)) (hP : zcR (CX1 X.prog X.w) X E) (hr : Room k X.A) (hg : Gl X x) (hm : X.mg x = some (.ref f))
    (hk : PySem.W.keepIn X.K (.ref f) = true) (hb : Binds X.K fd ps []) (ha : IA X (prj fa) (e :: es) cs) (hdb : (x == ("__debug__" : Str)) = false) (he : starEach (e :: es) X.env = (false, eval e X.env) :: starEach es X.env)
    (hpl : (backTo pos (starEach es X.env)).any (·.1) = false) : PE X (.Call (.Name x p) (e :: es) [] pos) (tCx X.K cl E fa i cs) :=
  (zhj F hr hg hm hk hb .nil hP ha.h hdb he hpl).imp fun σ H Q zz3 => by
    obtain ⟨W, ρ, a, hR, h, q⟩ := zz3
    unfold zhz at h
    rw [jo1] at h
    obtain ⟨rs, e1, e2⟩ := h
    split at e2
    · cases e2
    rename_i hl
    have hl : rs.any SV.lent = false := by simpa using hl
    refine ⟨W, ρ, rs, hR, e1, fun vs H1 s1 f => ?_⟩
    show spX X.K cl fa i (vs ++ []) H1 Q E
    rw [List.append_nil]
    refine ⟨W, _, hR.wf' s1, zd5 f hl, ?_⟩
    cases a with
    | ok r outs =>
      cases outs with
      | nil => exact .inl ⟨r, e2, fun v H' s2 h => q v H' (s1.trans s2) (h.back s1)⟩
      | cons _ _ => exact q.elim
    | ex c => exact .inr ⟨c, e2, fun H' s2 => q H' (s1.trans s2)⟩
section
variable {i : Nat} (hp : PE X e (tCx X.K cl E fa i cs))
include hp
theorem zbL (hs : swapsWith e Option.none pos.line X.env = pure false := by rfl) : IX X cl E (exT fa fuel (.callX i cs)) (.Expr e pos) :=
  .mk <| (zfx hp hs).imp fun D σ H zz3 => by
    obtain ⟨W, ρ, x, hR, hx, q⟩ := zz3
    simp only [exT, jo1] at hx
    obtain ⟨a, e1, e2⟩ := hx
    refine ⟨W, ρ, a, hR, e1, ?_⟩
    split at e2
    · cases e2; exact fun v H' s1 _ => q W σ H' (.same hR s1)
    · cases e2; exact fun H' s1 => q W σ H' (.same hR s1)
    · cases e2
theorem zgG : IX X cl E (exT fa fuel (.retX i cs)) (.Return (some e) pos) :=
  .mk <| (zg8 hp).imp fun D σ H zz3 => by
    obtain ⟨W, ρ, x, hR, hx, q⟩ := zz3
    simp only [exT, jo1] at hx
    obtain ⟨a, e1, e2⟩ := hx
    refine ⟨W, ρ, a, hR, e1, ?_⟩
    split at e2
    · split at e2
      · cases e2
      rename_i hl
      cases e2
      intro v H1 s1 h
      cases h with
      | val h => exact q W σ H1 (.same hR s1) v (.val h)
      | new h e r =>
        refine q _ σ H1 ⟨hR.add s1 h e, fun b o q _ => s1 b o q, (zc0 (W := W) s1 h).win, fun b w n => ⟨.inl w, n⟩, fun _ => ⟨.rfl, fun _ => rfl⟩⟩ _ (.new (.inr rfl) (fun z => hR.wf _ z.1 h) (fun ⟨j, z1, z2⟩ => ?_) e r)
        obtain ⟨d2, z1⟩ := z1
        obtain ⟨b, o, g1, g2, g3, _⟩ := hR.own j _ d2 z1 rfl
        rw [g1] at z2
        cases z2
        exact hR.wf _ g2 h
      | see h e r => simp [SV.lent] at hl
    · cases e2; exact fun H' s1 => q W σ H' (.same hR s1)
    · cases e2
end
end
end L2.LW
set_option maxHeartbeats 4000000
namespace L2.LW
open PySem PySem.Spec PySem.W PySem.Calls PyProof.Rows
section
variable {K : PySem.W.Frag} {x t c : Value} {H : Heap → Prop}
theorem zkZ (ty : ∀ (M : Model) (h : Heap), K.In h → H h → Looks M h (typeOf x) t) (e : kitOne K t c = some true) : Answers (fun s => K.In s.heap ∧ H s.heap) x c true := by
  rintro dep tk prog w A R ⟨h0, g, d, tt, os⟩ ⟨⟨X, p⟩, hq⟩
  have LT := ty (model prog w) h0 X p
  unfold kitOne at e
  unfold Builtin.«isinstance.nested»
  refine wpAny_bind (LT.at ?_)
  by_cases q : (t == c) = true
  · rw [if_pos q]
    first
      | exact wpAny_bind (wpAny_rule (hq tt))
      | exact wpAny_bind (wpAny_rule (wpAny_pure (hq tt)))
      | ((repeat lk); exact hq tt)
  · rw [if_neg q] at e ⊢
    obtain ⟨h1, h2, h3⟩ := kit_cls (M := model prog w) X e
    have h4 : Looks (model prog w) h0 (isInstance x c) true := LT.andThen h3
    refine wpAny_bind (h1.at ?_)
    rw [if_pos (by decide)]
    k_delta "plainIsInstance"
    refine wpAny_bind (wpAny_bind (h2.at ?_))
    simp only [Bool.not_true, Bool.false_eq_true, if_false]
    refine wpAny_bind (h4.at ?_)
    first
      | exact wpAny_pure (wpAny_pure (hq tt))
      | (simp only [if_true]; first | exact wpAny_pure (wpAny_pure (hq tt)) | exact wpAny_pure (hq tt) | exact wpAny_bind (wpAny_pure (wpAny_pure (hq tt))))
variable {prog : Program} {w : World} {A : Around} {E : Value → Shared → Prop} {s : Shared} {Q : Value → Shared → Prop}
theorem zi7 (ty : ∀ (M : Model) (h : Heap), K.In h → H h → Looks M h (typeOf x) t) (X : K.In s.heap) (p : H s.heap) (e : kitOne K t c = some true) (hx : x ≠ .builtin "__main__.__loader__#opaque") (h : ∀ tk, Q (.bool true) { s with toks := tk }) :
    wpAny (model prog w) A (call (.builtin "isinstance") [x, c]) Q E s :=
  call_isinstance (S := fun _ R s => (K.In s.heap ∧ H s.heap) ∧ ∀ tk, R (.ok (.ret (.bool true))) { s with toks := tk })
    (fun prog w A R s hs => isinstance_outer (zkZ ty e 0 _ prog w A R s hs) hx) ⟨⟨X, p⟩, h⟩
end
noncomputable abbrev zd8 (X : Cx) (a : Addr) (o : Obj) : Cx := { X with A := X.A.mark (some (.ref a)), calm := false, pn := (a, o) :: X.pn, xe := fun _ _ => False }
section
variable {X : Cx} {pins : List (Addr × Obj)} {σ : St} {H : Hp} {s : Shared} {a : Addr} {o : Obj}
theorem zm1 (ok : X.Ok) : (zd8 X a o).Ok :=
  ⟨ok.mod, ok.kind, ok.glob, ok.blt, ok.above, ok.inj, ok.has, ok.cab, (fun z => nomatch z), ok.frames, ok.stk, ok.exf, ok.bs, ok.bsz, ok.noex, ok.exfs, ok.funs, ok.frf⟩
theorem zh3 (I : Inv X pins σ H s) (h1 : s.heap.get? a = some o) (h2 : H a = Option.none) (h3 : a ≠ X.env.locals) (h4 : a ∉ X.fs) (h5 : ∀ v, o.data ≠ .cell v) : Inv (zd8 X a o) pins σ H s :=
  ⟨zm1 I.ok, I.os, I.bare, I.base, I.loc, I.cell, I.free, I.freeC, fun p hp => by
    rcases List.mem_cons.mp (show p ∈ (a, o) :: (X.pn ++ pins) from hp) with rfl | hp
    · exact ⟨h1, h2, h3, h4, h5⟩
    · exact I.pin p hp, I.hok, I.len⟩
theorem zk0 (I : Inv (zd8 X a o) pins σ H s) (ok : X.Ok) : Inv X pins σ H s :=
  ⟨ok, I.os, I.bare, I.base, I.loc, I.cell, I.free, I.freeC, fun p hp => I.pin p (List.mem_cons_of_mem _ hp), I.hok, I.len⟩
theorem Inv.gone {k : Nat} {n : Str} {m : Str → Option Value} {h' : Heap} {v : Option Value} {tk : Nat} (I : Inv X pins σ H s) (hN : X.N.Nodup) (hi : X.N[k]? = some n)
    (hl : ∀ (i : Nat) (x : Str) (v : V), X.N[i]? = some x → σ[i]? = some (some v) → Vis X.env.scope x → ∃ u, RelV v u ∧ zrP X.env s.heap m x u)
    (hn : h'.Ns X.env.locals (fun x => if x = n then v else m x)) (hs : Heap.SameBut X.env.locals s.heap h') : Inv X pins (σ.set k Option.none) H { s with heap := h', toks := tk } := by
  have cne := I.cne
  have low : ∀ b o, X.s₀.heap.get? b = some o → b ≠ X.env.locals := fun b o e => Nat.ne_of_lt (Nat.lt_of_lt_of_le (Heap.lt_size e) I.ok.above)
  refine ⟨I.ok, I.os, I.bare, ⟨fun b o e z hb hx => (hs.2 b (low b o e)).trans (I.base.keep b o e z hb hx), fun b o e z hb hx => ?_, I.base.free, fun b o e hx => ?_, I.base.tups, I.base.frzs, I.base.tbls⟩, ⟨_, hn, fun j y w e1 e2 e3 => ?_⟩, fun y c e => ?_, I.free, I.freeC, fun p hp => ?_, fun b ob e => ?_, by rw [List.length_set]; exact I.len⟩
  · obtain ⟨sl, e1⟩ := I.base.slot b o e z hb hx
    exact ⟨sl, (hs.2 b (low b o e)).trans e1⟩
  · obtain ⟨o', e1⟩ := I.base.there b o e hx
    exact ⟨o', (hs.2 b (low b o e)).trans e1⟩
  · by_cases hj : j = k
    · subst hj
      rcases zaD e2 with ⟨_, z, _⟩ | ⟨ne, _⟩
      · cases z
      · exact absurd rfl ne
    · rw [List.getElem?_set_ne (Ne.symm hj)] at e2
      obtain ⟨u, r, q⟩ := hl j y w e1 e2 e3
      refine ⟨u, r, ?_⟩
      rcases q with ⟨kk, e⟩ | ⟨kk, c, e, z⟩
      · have ne : y ≠ n := fun e => hj (zdS hN e1 (e ▸ hi))
        exact .inl ⟨kk, by simp [ne, e]⟩
      · exact .inr ⟨kk, c, e, z.sameBut hs (cne y c e)⟩
  · obtain ⟨w, z⟩ := I.cell y c e
    exact ⟨w, z.sameBut hs (cne y c e)⟩
  · obtain ⟨e, z, ne, nf, d⟩ := I.pin p hp
    exact ⟨(hs.2 p.1 ne).trans e, z, ne, nf, d⟩
  · refine (I.hok b ob e).stay (fun c u hc q => (hs.2 c ?_).trans q) (fun _ q => q) fun _ _ q => q
    rintro rfl
    have fr := I.free
    rcases hc with z | z
    · rw [z, e] at fr; cases fr
    · rw [z] at fr; cases fr
noncomputable def tIs (k : Nat) (a : Addr) : TE := fun σ H Q => σ[k]? = some (some (.ref a)) ∧ Q (.bl true) H
theorem zm2 {k : Nat} {n y : Str} {c : V} {cls cv : Value} {p p1 p2 pos : Pos} (hN : X.N[k]? = some n) (hv : Vis X.env.scope n) (hd : (n == ("__debug__" : Str)) = false) (hcd : (n == ("__classdict__" : Str)) = false)
    (ho : o.cls = cls) (hc : kitOne X.K cls cv = some true) (hg : Gl X "isinstance") (hm : X.mg "isinstance" = Option.none) (hcv : ∀ u, RelV c u → u = cv) (hy : PE (zd8 X a o) (.Name y p2) (tC c))
    (h1 : starEach [Expr.Name n p1, .Name y p2] X.env = (false, eval (.Name n p1) X.env) :: starEach [Expr.Name y p2] X.env) (h2 : starEach [Expr.Name y p2] X.env = (false, eval (.Name y p2) X.env) :: starEach [] X.env)
    (hpl : (backTo pos (starEach [Expr.Name y p2] X.env)).any (·.1) = false) :
    PE (zd8 X a o) (.Call (.Name "isinstance" p) [.Name n p1, .Name y p2] [] pos) (tIs k a) := by
  have cr : CallR (zd8 X a o) (.builtin "isinstance") (fun vs H Q => vs = [.ref a, c] ∧ Q (.bl true) H) := by
    rintro pins s σ H xs us Q I rv ⟨rfl, q⟩
    cases rv with
    | cons r1 rv =>
      cases rv with
      | cons r2 rv =>
        cases rv
        cases r1
        obtain rfl := hcv _ r2
        have pin := I.pin (a, o) (List.mem_append_left _ List.mem_cons_self)
        refine zi7 (K := X.K) (t := cls) (H := fun h => ∃ o', h.get? a = some o' ∧ o'.cls = cls) (fun M h _ ⟨o', e1, e2⟩ => e2 ▸ (Looks.ld e1).andThen .now) I.kIn ⟨o, pin.1, ho⟩ hc (fun z => nomatch z) fun tk => ⟨.bl true, H, I.tok tk, rfl, q⟩
  refine (zcK cr hg hm PyProof.Rows.boot_isinstance (za3 (zcP hN hv hd hcd) (za3 hy zbY h2) h1) (by decide) (by decide) h1 hpl).imp fun σ H Q ⟨hk, q⟩ => ?_
  exact ⟨_, hk, rfl, q⟩
theorem zgj {x : Str} {C : Addr} {p : Pos} (hg : Gl X x) (hm : X.mg x = some (.ref C)) (hd : (x == ("__debug__" : Str)) = false) : PE X (.Name x p) (tC (.ref C)) :=
  fun _ _ _ H _ I h => zcQ I hg hm ⟨.ref C, H, I, rfl, h⟩ hd
end
end L2.LW
set_option maxHeartbeats 4000000
namespace L2.LW
open PySem PySem.Spec PySem.W PySem.Calls PyProof.Rows
noncomputable abbrev zgH (X : Cx) (pn : List (Addr × Obj)) (xe : Value → Shared → Prop) : Cx := { X with pn := pn, xe := xe }
theorem zm3 {X : Cx} {pins : List (Addr × Obj)} {σ : St} {H : Hp} {s : Shared} {xe : Value → Shared → Prop} (I : Inv X pins σ H s) : Inv (zgH X (X.pn ++ pins) xe) [] σ H s :=
  ⟨⟨I.ok.mod, I.ok.kind, I.ok.glob, I.ok.blt, I.ok.above, I.ok.inj, I.ok.has, I.ok.cab, I.ok.hd, I.ok.frames, I.ok.stk, I.ok.exf, I.ok.bs, I.ok.bsz, I.ok.noex, I.ok.exfs, I.ok.funs, I.ok.frf⟩, I.os, I.bare, I.base, I.loc, I.cell, I.free, I.freeC, fun p hp => I.pin p (by simpa using hp), I.hok, I.len⟩
theorem zc3 {X : Cx} {pins pins' : List (Addr × Obj)} {σ : St} {H : Hp} {s : Shared} {xe : Value → Shared → Prop} (I : Inv (zgH X (X.pn ++ pins) xe) pins' σ H s) : Inv X pins σ H s :=
  ⟨⟨I.ok.mod, I.ok.kind, I.ok.glob, I.ok.blt, I.ok.above, I.ok.inj, I.ok.has, I.ok.cab, I.ok.hd, I.ok.frames, I.ok.stk, I.ok.exf, I.ok.bs, I.ok.bsz, I.ok.noex, I.ok.exfs, I.ok.funs, I.ok.frf⟩, I.os, I.bare, I.base, I.loc, I.cell, I.free, I.freeC, fun p hp => I.pin p (List.mem_append_left _ hp), I.hok, I.len⟩
end L2.LW
set_option maxHeartbeats 4000000
namespace L2.LW
open PySem PySem.Spec PySem.W PySem.Calls PyProof.Rows
theorem zgk {X : Cx} {pins pins' : List (Addr × Obj)} {xe : Value → Shared → Prop} {D : Ends} {f : Flow} {s : Shared} (h : SP (zgH X (X.pn ++ pins) xe) pins' D f s) : SP X pins D f s := by
  cases f with
  | next => obtain ⟨σ', H', I, q⟩ := h; exact ⟨σ', H', zc3 I, q⟩
  | brk => obtain ⟨σ', H', I, q⟩ := h; exact ⟨σ', H', zc3 I, q⟩
  | cont => obtain ⟨σ', H', I, q⟩ := h; exact ⟨σ', H', zc3 I, q⟩
  | ret u => obtain ⟨v, σ', H', I, r, q⟩ := h; exact ⟨v, σ', H', zc3 I, r, q⟩
theorem zbx {Pg : Program} {w : World} {K : PySem.W.Frag} {mg : Str → Option Value} {base : Heap} {x qual : Str} {st : Stmt} {f : Addr} {fd : FuncData} {N ps : List Str} {k n i : Nat} {P : Nat → Option Fn} {fuel : Nat} {F0 : Fn} {cl : Nat → Value} {tb : Ts}
    (F : Fun K x qual st f fd) (S : FnScope N ps (zaa st)) (hP : P i = some F0) (hnp : F0.np = ps.length) (hnl : F0.nl = N.length) (hxb : F0.xb = some tb)
    (hbody : ∀ (cdv : Value) (A : Around) (outer : List PySem.Env) (s : Shared) (H : Hp) (E : XK), Room k (A.deeper (envOfC qual (zaa st) s.heap.objs.size f cdv)) →
      IXs (zbo (CX1 Pg w) Pg w K mg base N qual (zaa st) f cdv A outer s H E) cl E (za9 (zah P fuel n) fuel tb) (zae st)) :
    FnOk Pg w K mg base (CX1 Pg w) (k + 1) f fd ps (spX K cl (zah P fuel (n + 1)) i) := by
  have dec : ∀ {ds : List D} {r : Ans}, zah P fuel (n + 1) i ds = some r → ds.length = F0.np ∧ zj1 (za9 (zah P fuel n) fuel tb (zbH [] 0 ds ++ List.replicate (F0.nl - F0.np) Option.none)) = some r := fun {ds r} h => by
    rw [zah, hP] at h
    simp only [Option.bind_some, hxb] at h
    split at h
    · exact ⟨by assumption, h⟩
    · cases h
  have dec0 := @dec
  obtain ⟨oc, od, kV, doc, pm, an, cdv, ct, osl, rfl, lk, hcd⟩ := F.ex
  refine zmj lk hcd S (fun vs H Q E h => ?_) fun A outer s H vs Q E hr h => ⟨_, (hbody cdv A outer s H E hr).h, ?_⟩
  · obtain ⟨W, ds, wf, rp, ⟨r, e, _⟩ | ⟨c, e, _⟩⟩ := h
    · rw [← rp.length, (dec e).1, hnp]
    · rw [← rp.length, (dec e).1, hnp]
  · obtain ⟨W, ds, wf, rp, h⟩ := h
    have len : ds.length = F0.np := by
      obtain ⟨r, e, _⟩ | ⟨c, e, _⟩ := h
      · exact (dec e).1
      · exact (dec e).1
    have hlv := rp.length
    have hplN : ps.length ≤ N.length := by have := congrArg List.length S.pre; rw [List.length_take] at this; omega
    generalize hρ : zbH [] 0 ds ++ List.replicate (F0.nl - F0.np) Option.none = ρ at dec
    have at_ : ∀ {j : Nat} {x : SV}, ρ[j]? = some (some x) → ∃ d, ds[j]? = some d ∧ x = .val d := fun {j x} h => by
      rw [← hρ] at h
      obtain ⟨d, e1, e2⟩ := zhT h
      exact ⟨d, e1, by simpa using e2⟩
    have noown : ∀ a, ¬ Own ρ (zbq N vs) a := fun a zz1 => by
      obtain ⟨j, x, d, h1, hc, h2⟩ := zz1
      obtain ⟨d', e1, rfl⟩ := at_ h1
      cases hc
    have hR : R K W ρ (zbq N vs) H := by
      refine ⟨fun j d h => ?_, fun j d h => ?_, fun j x d h hc => ?_, fun j k x y d e a h1 h2 c1 c2 h3 h4 => ?_, wf, ?_⟩
      · obtain ⟨d', e1, e2⟩ := at_ h
        cases e2
        obtain ⟨v, h1, h2⟩ := rp.get e1
        exact ⟨v, zbj h1, h2⟩
      · obtain ⟨d', e1, e2⟩ := at_ h
        cases e2
      · obtain ⟨d', e1, rfl⟩ := at_ h
        cases hc
      · obtain ⟨d1, e1, rfl⟩ := at_ h1
        cases c1
      · rw [← hρ]
        unfold zbq
        rw [List.length_append, List.length_append, zbv, List.length_map, List.length_replicate, List.length_replicate]
        omega
    have fin : ∀ {an : Ans}, zah P fuel (n + 1) i ds = some an → ∃ y : FlX × LW.Env, za9 (zah P fuel n) fuel tb ρ = some y ∧ zj1 (some y) = some an := fun {an} e => by
      have e' : zj1 (za9 (zah P fuel n) fuel tb ρ) = some an := by rw [← hρ]; exact (dec0 e).2
      cases hx : za9 (zah P fuel n) fuel tb ρ with
      | none => rw [hx] at e'; cases e'
      | some y => rw [hx] at e'; exact ⟨y, rfl, e'⟩
    obtain ⟨r, e, q⟩ | ⟨c, e, q⟩ := h
    · obtain ⟨⟨fl, ρ'⟩, hx, he⟩ := fin e
      refine ⟨W, ρ, (fl, ρ'), hR, hx, fun W' σ' H' p => ?_⟩
      have kp : Same H H' := fun b o h => p.keep b o h (noown b)
      have sub : ∀ b, W b → W' b := fun b w => (p.wout b w (noown b)).1
      cases fl with
      | ex c => cases he
      | fl f0 =>
        cases f0 with
        | br => cases he
        | ct => cases he
        | nx => cases he; exact q _ H' kp (.val .non)
        | rt r' =>
          cases he
          intro v hv
          cases hv with
          | val h => exact q v H' kp (.val (h.less sub))
          | new h nn n' eL rr =>
            have ha := (p.win _ h).resolve_left fun w => nn ⟨w, noown _⟩
            refine q _ H' kp (.new ha eL (rr.less fun b w => ?_))
            rcases w with w | rfl
            · exact sub b w
            · exact h
    · obtain ⟨⟨fl, ρ'⟩, hx, he⟩ := fin e
      refine ⟨W, ρ, (fl, ρ'), hR, hx, fun W' σ' H' p => ?_⟩
      have kp : Same H H' := fun b o h => p.keep b o h (noown b)
      cases fl with
      | ex c' => cases he; exact q H' kp
      | fl f0 => cases f0 <;> cases he
theorem zgl {K : PySem.W.Frag} {W : Addr → Prop} {H : Hp} : ∀ {ds : List D} {vs : List V}, ds.length = vs.length → (∀ (k : Nat) (d : D), ds[k]? = some d → ∃ v, vs[k]? = some v ∧ Rep K W H d v) → Reps K W H ds vs
  | [], [], _, _ => .nil
  | [], _ :: _, l, _ => by cases l
  | _ :: _, [], l, _ => by cases l
  | d :: ds, v :: vs, l, h => by
    obtain ⟨v', h1, h2⟩ := h 0 d rfl
    cases h1
    exact .cons h2 (zgl (by simpa using l) fun j d' z => h (j + 1) d' z)
theorem za8 {Pg : Program} {w : World} {K : PySem.W.Frag} {mg : Str → Option Value} {base : Heap} {f : Addr} {fd : FuncData} {ps : List Str} {k n i : Nat} {P : Nat → Option Fn} {fuel : Nat} {F0 : Fn} {cl : Nat → Value} {tb : Ts}
    (F : FnOk Pg w K mg base (CX1 Pg w) k f fd ps (spX K cl (zah P fuel (n + 1)) i)) (hP : P i = some F0) (hxb : F0.xb = some tb) : FnOk Pg w K mg base CX0 k f fd ps (spA K (zah P fuel (n + 1)) i []) := by
  have no : ∀ {ds r outs}, zah P fuel (n + 1) i ds = some (.ok r outs) → outs = [] := fun {ds r outs} h => by
    rw [zah, hP] at h
    simp only [Option.bind_some, hxb] at h
    split at h
    · generalize za9 (zah P fuel n) fuel tb _ = y at h
      unfold zj1 at h
      split at h <;> cases h <;> rfl
    · cases h
  have to : ∀ {vs H Q E}, spA K (zah P fuel (n + 1)) i [] vs H Q E → spX K cl (zah P fuel (n + 1)) i vs H Q E0 := fun {vs H Q E} ⟨W, ds, r, outs, wf, rp, e, q⟩ => by
    obtain rfl := no e
    refine ⟨W, ds, wf, ?_, .inl ⟨r, e, fun v H' s h => q v H' (fun a o z _ => s a o z) .nil h⟩⟩
    exact zgl rp.len fun j d z => rp.val j d z (by simp)
  refine ⟨fun vs H Q E h => F.len vs H Q E0 (to h), fun A outer s H args us vs Q E hr e0 hb hv hs => codeAny_mono (F.run A outer s H args us vs Q E0 hr e0 hb hv (to hs)) fun r s' h => ?_⟩
  cases r with
  | ok fl => cases fl <;> exact h
  | error e => obtain ⟨_, _, _, _, _, _, _, _, _, z⟩ := h; exact z.elim
end L2.LW
namespace L2.LW
open PySem PySem.Spec PySem.W PySem.Calls PyProof.Rows
noncomputable def clV (CL : Nat → Addr) (c : Nat) : Value := .ref (CL c)
theorem zk1 {P : Nat → Prop} : ∀ c ∈ ([] : List Nat), P c := fun _ h => by cases h
theorem all_cons {P : Nat → Prop} {a : Nat} {l : List Nat} (h : P a) (t : ∀ c ∈ l, P c) : ∀ c ∈ a :: l, P c := fun c hc => by
  rcases List.mem_cons.mp hc with rfl | hc
  · exact h
  · exact t c hc
theorem zi8 {K : PySem.W.Frag} {t : Value} : kitOne K t t = some true := by
  unfold kitOne
  rw [if_pos (by simp)]
section
variable {X : Cx} {CL : Nat → Addr} {cs : List Nat} {k : Nat} {n y : Str} {p p1 p2 pos : Pos}
theorem zk2 (k1 : Nat) (hk : k1 ≠ 0 ∧ k1 ≠ 7) (hN : X.N[k]? = some n) (hv : Vis X.env.scope n) (hd : (n == ("__debug__" : Str)) = false) (hcd : (n == ("__classdict__" : Str)) = false) (hg : Gl X "isinstance") (hm : X.mg "isinstance" = Option.none)
    (hgy : Gl X y) (hmy : X.mg y = some (.ref (CL k1))) (hdy : (y == ("__debug__" : Str)) = false) :
    ∀ c ∈ cs, zoz c k1 = true → ∀ (a : Addr) (o : Obj), o.cls = clV CL c → PE (zd8 X a o) (.Call (.Name "isinstance" p) [.Name n p1, .Name y p2] [] pos) (tIs k a) := fun c _ hs a o ho => by
  have e : c = k1 := by
    unfold zoz at hs
    simp only [Bool.or_eq_true, beq_iff_eq] at hs
    omega
  subst e
  exact zm2 (c := .ref (CL c)) (cv := .ref (CL c)) hN hv hd hcd ho zi8 hg hm (fun u r => r) (zgj hgy hmy hdy) zab zab (zaq zab zak)
end
theorem zaU {Pg : Program} {w : World} {K : PySem.W.Frag} {mg : Str → Option Value} {base : Heap} {f : Addr} {fd : FuncData} {ps : List Str} {k i : Nat} {P : Nat → Option Fn} {fuel : Nat} {cl : Nat → Value} : FnOk Pg w K mg base (CX1 Pg w) k f fd ps (spX K cl (zah P fuel 0) i) := by
  have no : ∀ vs H Q E, ¬ spX K cl (zah P fuel 0) i vs H Q E := fun vs H Q E zz4 => by
    obtain ⟨W, ds, _, _, h⟩ := zz4
    rcases h with ⟨r, e, _⟩ | ⟨c, e, _⟩ <;> cases e
  exact ⟨fun vs H Q E h => (no _ _ _ _ h).elim, fun A outer s H args us vs Q E _ _ _ _ h => (no _ _ _ _ h).elim⟩
end L2.LW
set_option maxHeartbeats 4000000
set_option maxRecDepth 100000
set_option maxHeartbeats 4000000
namespace L2.LW
open PySem PySem.Spec PySem.W PySem.Calls PyProof.Rows
noncomputable def Ite (n : Nat) (itm : Nat → Option V) (ok : Hp → Prop) : It :=
  ⟨fun i H => i < n ∧ ok H, fun i H v H' => ∃ p x, H p = Option.none ∧ v = .ref p ∧ H' = upd H p (.tup [.int i, x]) ∧ itm i = some x, fun i H => i = n ∧ ok H⟩
section
variable {X : Cx} {pins : List (Addr × Obj)} {σ : St} {H : Hp} {s : Shared}
theorem zgm {e it : Addr} {h' : Heap} {i : Int} {tk : Tok} {k : Nat} {x : V} {u : Value} (I : Inv X pins σ H s) (fe : zfz X pins H e) (fi : zfz X pins H it)
    (kp : ∀ b o, b ≠ e → b ≠ it → s.heap.get? b = some o → h'.get? b = some o) (ht : h'.get? s.heap.objs.size = some { cls := .type "tuple", data := .seq #[.int i tk, u] }) (rx : RelV x u) :
    Inv X pins σ (upd H s.heap.objs.size (.tup [.int i, x])) { s with heap := h', toks := k } := by
  have low : ∀ b o, s.heap.get? b = some o → b ≠ s.heap.objs.size := fun b o z => Nat.ne_of_lt (Heap.lt_size z)
  have lowH : ∀ b o, H b = some o → b ≠ s.heap.objs.size := fun b o z => Nat.ne_of_lt (I.hok.lt z)
  have un : Un (frs X.stack) [e, it] H (upd H s.heap.objs.size (.tup [.int i, x])) s.heap h' :=
    ⟨fun b o z _ _ hx => kp b o (fun y => hx (by simp [y])) (fun y => hx (by simp [y])) z, fun b o z _ _ hx => ⟨o.slots, kp b o (fun y => hx (by simp [y])) (fun y => hx (by simp [y])) z⟩,
     fun b o z n _ => by rw [zau (low b o z)]; exact n, fun b o z hx => ⟨o, kp b o (fun y => hx (by simp [y])) (fun y => hx (by simp [y])) z⟩,
     fun b xs z => by rw [zau (lowH b _ z)]; exact z, fun b o u z => by rw [zau (lowH b _ z)]; exact z, fun b ps z => ⟨#[], by rw [zau (lowH b _ z)]; simpa using z⟩⟩
  have ok : HOk X.prog X.w (upd H s.heap.objs.size (.tup [.int i, x])) h' := fun a o z => by
    by_cases ha : a = s.heap.objs.size
    · subst ha
      rw [zaL] at z
      cases z
      exact ⟨by show 2 ≤ sizeLine; decide, [.int i tk, u], .cons ⟨tk, rfl⟩ (.cons rx .nil), _, ht, rfl, _, rfl⟩
    · rw [zau ha] at z
      have nt : ∀ b, (b = a ∨ H b = some (.own a)) → b ≠ e ∧ b ≠ it := fun b hb => by
        have hb' : H b ≠ Option.none := by
          rcases hb with rfl | hb
          · rw [z]; exact fun z => nomatch z
          · rw [hb]; exact fun z => nomatch z
        exact ⟨fun y => hb' (by rw [y]; exact fe.1), fun y => hb' (by rw [y]; exact fi.1)⟩
      exact (I.hok a o z).stay (fun b u hb q => kp b u (nt b hb).1 (nt b hb).2 q) (fun b q => by rw [zau (lowH b _ q)]; exact q) fun b xs q => by rw [zau (lowH b _ q)]; exact q
  refine I.call' (s' := { s with heap := h', toks := k }) rfl un ok I.bare fun b hb => ?_
  rcases List.mem_cons.mp hb with rfl | hb
  · exact ⟨fe.2.2.2.1, fe.2.1, fe.2.2.2.2.1, fe.2.2.2.2.2⟩
  · obtain rfl := List.mem_singleton.mp hb
    exact ⟨fi.2.2.2.1, fi.2.1, fi.2.2.2.2.1, fi.2.2.2.2.2⟩
theorem zh4 {e it : Addr} {h' : Heap} (I : Inv X pins σ H s) (fi : zfz X pins H it) (kp : ∀ b o, b ≠ it → s.heap.get? b = some o → h'.get? b = some o) : Inv X pins σ H { s with heap := h' } :=
  I.turned (t' := s.toks) (fun b o hb z => kp b o hb z) fi.1 fi.2.1 fi.2.2.2.1 fi.2.2.2.2.1 fi.2.2.2.2.2
end
theorem zh5 {P : Program} {w : World} {A : Around} {E : Value → Shared → Prop} {s : Shared} {elts : List Expr} {kt : Nat} {pt : Pos} {e it a : Addr} {i : Int} {item : Value} {Q : Unit → Shared → Prop} (he : IsEnumOut s.heap e it i item a)
    (hQ : ∀ h', IsEnum h' e it i item → Heap.SameBut e s.heap h' → Q () { s with heap := h' }) : wpAny (model P w) A (letOwnedTupleGo (.Tuple elts kt pt) (.ref e) (.ref a)) Q E s := wpAny_letOwnedTupleGo_enum he hQ
theorem zgI {P : Program} {w : World} {K : PySem.W.Frag} {elts : List Expr} {kt : Nat} {pt : Pos} {xs : List V} (a it e : Addr) (ne : e ≠ it) :
    Turn P w K (.Tuple elts kt pt) (Ite xs.length (fun i => xs[i]?) fun H => SqL K H a xs) [e, it] e (fun i h => (∃ old, IsEnum h e it i old) ∧ h.IsListIter it a i) where
  mem := by simp
  obj := fun i h zz2 b hb => by
    obtain ⟨⟨old, st⟩, st2⟩ := zz2
    rcases List.mem_cons.mp hb with rfl | hb
    · exact ⟨_, st, fun v z => by cases z⟩
    · obtain rfl := List.mem_singleton.mp hb
      obtain ⟨o, e1, c, d⟩ := st2
      exact ⟨o, e1, fun v z => by rw [d] at z; cases z⟩
  keep := fun i h h' ⟨⟨old, st⟩, st2⟩ k => ⟨⟨old, k e (by simp) _ st⟩, st2.at fun o z => k it (by simp) o z⟩
  item := by
    intro X hP hw hK hc i pins s σ H E I hf ⟨⟨old, st⟩, st2⟩ ⟨hlt, hq⟩
    subst hP hw hK
    obtain ⟨its, rv, p, hz⟩ := I.list hq
    obtain ⟨u, hu, ru⟩ := rv.get (show xs[i]? = some xs[i] by simp [hlt])
    refine wpAny_pyNext_enum_item st st2 p.isList (x := u) (by simpa using hu) ne fun h1 eo l1 tp sz kp => ?_
    refine ⟨_, rfl, zh5 eo fun h2 en sb => ?_⟩
    have lt : e < s.heap.objs.size := Heap.lt_size st
    have lt2 : it < s.heap.objs.size := by obtain ⟨o, z, _⟩ := st2; exact Heap.lt_size z
    have I2 := zgm (h' := h2) (i := (i : Int)) (tk := s.toks) (k := s.toks + 1) I (hf e (by simp)) (hf it (by simp)) (fun b o n1 n2 z => (sb.2 b n1).trans (kp b o n1 n2 z)) ((sb.2 _ (Nat.ne_of_gt lt)).trans tp) ru
    refine ⟨.ref s.heap.objs.size, _, I2, rfl, ⟨_, _, I.fresh, rfl, rfl, by simp [hlt]⟩, ⟨⟨u, ?_⟩, l1.extBut sb.extBut (Ne.symm ne)⟩, fun b hb => ?_⟩
    · have e2 : ((i + 1 : Nat) : Int) = (i : Int) + 1 := by omega
      rw [e2]; exact en
    · have nb : b ≠ s.heap.objs.size := by
        rcases List.mem_cons.mp hb with rfl | hb
        · exact Nat.ne_of_lt lt
        · obtain rfl := List.mem_singleton.mp hb; exact Nat.ne_of_lt lt2
      rw [zau nb]; exact (hf b hb).1
  done := by
    intro X hP hw hK hc i pins s σ H E I hf ⟨⟨old, st⟩, st2⟩ ⟨hge, hq⟩
    subst hP hw hK
    obtain ⟨its, rv, p, hz⟩ := I.list hq
    have hl := rv.length
    exact wpAny_pyNext_enum_end (I.ok.hd hc) st st2 p.isList (by simp; omega) fun h' eb => ⟨rfl, zh4 (e := e) I (hf it (by simp)) fun b o hb z => eb b o hb z⟩
  self := fun _ _ _ _ _ ⟨⟨_, st⟩, _⟩ h => wpAny_pyIter_enum st h
noncomputable def zgJ (x : Str) : List V := x.cps.toList.map fun c => V.str ⟨#[c]⟩
theorem zeO {P : Program} {w : World} {A : Around} (hh : A.handled = Option.none) (it : Addr) (x : Str) (t : Tok) :
    Draws P w A it [it] x.cps.size (fun i v => ∃ c u, x.cps[i]? = some c ∧ v = .str ⟨#[c]⟩ u) (fun i h => h.IsStrIter it (strIterType x) x t i) := by
  unfold strIterType
  by_cases h : (x.cps.all (· < 128)) = true
  · rw [if_pos h]; exact Draws.strAscii hh it x t
  · rw [if_neg h]; exact Draws.strWide hh it x t
theorem zgK {P : Program} {w : World} {K : PySem.W.Frag} {elts : List Expr} {kt : Nat} {pt : Pos} {x : Str} {t : Tok} (it e : Addr) (ne : e ≠ it) :
    Turn P w K (.Tuple elts kt pt) (Ite x.cps.size (fun i => (zgJ x)[i]?) fun _ => True) [e, it] e (fun i h => (∃ old, IsEnum h e it i old) ∧ h.IsStrIter it (strIterType x) x t i) where
  mem := by simp
  obj := fun i h zz2 b hb => by
    obtain ⟨⟨old, st⟩, st2⟩ := zz2
    rcases List.mem_cons.mp hb with rfl | hb
    · exact ⟨_, st, fun v z => by cases z⟩
    · obtain rfl := List.mem_singleton.mp hb
      obtain ⟨o, e1, c, d⟩ := st2
      exact ⟨o, e1, fun v z => by rw [d] at z; cases z⟩
  keep := fun i h h' ⟨⟨old, st⟩, o, e1, r⟩ k => ⟨⟨old, k e (by simp) _ st⟩, o, k it (by simp) o e1, r⟩
  item := by
    intro X hP hw hK hc i pins s σ H E I hf ⟨⟨old, st⟩, st2⟩ ⟨hlt, _⟩
    subst hP hw hK
    have D := zeO (P := X.prog) (w := X.w) (A := X.A.in1) (I.ok.hd hc) it x t
    refine wpAny_pyNext_enum_itemD D st st2 hlt ne (by simpa using ne) fun v h1 tk ⟨c, u, hc1, hv⟩ eo l1 tp sz kp => ?_
    subst hv
    refine ⟨_, rfl, zh5 (s := { s with heap := h1, toks := tk + 1 }) eo fun h2 en sb => ?_⟩
    have lt : e < s.heap.objs.size := Heap.lt_size st
    have lt2 : it < s.heap.objs.size := by obtain ⟨o, z, _⟩ := st2; exact Heap.lt_size z
    have I2 := zgm (h' := h2) (i := (i : Int)) (tk := tk) (k := tk + 1) (x := V.str ⟨#[c]⟩) I (hf e (by simp)) (hf it (by simp)) (fun b o n1 n2 z => (sb.2 b n1).trans (kp b o n1 n2 z)) ((sb.2 _ (Nat.ne_of_gt lt)).trans tp) ⟨u, rfl⟩
    refine ⟨.ref s.heap.objs.size, _, I2, rfl, ⟨_, _, I.fresh, rfl, rfl, ?_⟩, ⟨⟨.str ⟨#[c]⟩ u, ?_⟩, D.frame _ _ _ l1 fun b hb o z => ?_⟩, fun b hb => ?_⟩
    · show (zgJ x)[i]? = _
      unfold zgJ
      rw [List.getElem?_map, Array.getElem?_toList, hc1]; rfl
    · have e2 : ((i + 1 : Nat) : Int) = (i : Int) + 1 := by omega
      rw [e2]; exact en
    · obtain rfl := List.mem_singleton.mp hb
      exact (sb.2 b (Ne.symm ne)).trans z
    · have nb : b ≠ s.heap.objs.size := by
        rcases List.mem_cons.mp hb with rfl | hb
        · exact Nat.ne_of_lt lt
        · obtain rfl := List.mem_singleton.mp hb; exact Nat.ne_of_lt lt2
      rw [zau nb]; exact (hf b hb).1
  done := by
    intro X hP hw hK hc i pins s σ H E I hf ⟨⟨old, st⟩, st2⟩ ⟨hge, _⟩
    subst hP hw hK
    subst hge
    have D := zeO (P := X.prog) (w := X.w) (A := X.A.in1) (I.ok.hd hc) it x t
    exact wpAny_pyNext_enum_endD D st st2 fun h' eb => ⟨rfl, zh4 (e := e) I (hf it (by simp)) fun b o hb z => eb b o hb z⟩
  self := fun _ _ _ _ _ ⟨⟨_, st⟩, _⟩ h => wpAny_pyIter_enum st h
end L2.LW
set_option maxHeartbeats 4000000
namespace L2.LW
open PySem PySem.Spec PySem.W PySem.Calls PyProof.Rows PySem.Builtin PySem.Builtin.Str
noncomputable def zeP (c : Nat) : List (List Nat) → List Nat
  | [] => []
  | [p] => p
  | p :: q :: r => p ++ c :: zeP c (q :: r)
theorem zfL {c : Nat} : ∀ {p l : List Nat} {q : List Nat} {r : List (List Nat)}, c ∉ p → zg1 c l = q :: r → zg1 c (p ++ l) = (p ++ q) :: r
  | [], _, _, _, _, h => h
  | a :: p, l, q, r, hn, h => by
    have ha : a ≠ c := fun z => hn (by rw [z]; exact List.mem_cons_self)
    have := zfL (p := p) (fun z => hn (List.mem_cons_of_mem _ z)) h
    show zg1 c (a :: (p ++ l)) = _
    rw [zg1, if_neg ha, this]
    rfl
theorem zi9 {c : Nat} {p : List Nat} (hn : c ∉ p) : zg1 c p = [p] := by
  have := zfL (l := []) (q := []) (r := []) hn rfl
  simpa using this
theorem zgn {c : Nat} : ∀ {ps : List (List Nat)}, ps ≠ [] → (∀ p ∈ ps, c ∉ p) → zg1 c (zeP c ps) = ps
  | [], h, _ => absurd rfl h
  | [p], _, h => zi9 (h p List.mem_cons_self)
  | p :: q :: r, _, h => by
    have ih := zgn (ps := q :: r) (by simp) fun x hx => h x (List.mem_cons_of_mem _ hx)
    show zg1 c (p ++ c :: zeP c (q :: r)) = _
    have e : zg1 c (c :: zeP c (q :: r)) = [] :: (q :: r) := by rw [zg1, if_pos rfl, ih]
    rw [zfL (h p List.mem_cons_self) e, List.append_nil]
theorem zgo (c : Nat) : ∀ ps : List Str, (Str.join ⟨#[c]⟩ ps).cps.toList = zeP c (ps.map fun p => p.cps.toList)
  | [] => rfl
  | [p] => rfl
  | p :: q :: r => by
    have ih := zgo c (q :: r)
    have e : Str.join ⟨#[c]⟩ (p :: q :: r) = p ++ ⟨#[c]⟩ ++ Str.join ⟨#[c]⟩ (q :: r) := rfl
    rw [e]
    have e2 : zeP c ((p :: q :: r).map fun p => p.cps.toList) = p.cps.toList ++ c :: zeP c ((q :: r).map fun p => p.cps.toList) := rfl
    rw [e2, ← ih]
    have e3 : ∀ a b : Str, (a ++ b).cps = a.cps ++ b.cps := fun _ _ => rfl
    rw [e3, e3]
    simp
theorem zdJ (x : Str) : Txt.split x ⟨#[10]⟩ = zf6 x := by
  have h1 := StrLaws.join_split x ⟨#[10]⟩
  have h2 := StrLaws.split_free x 10
  have h3 := split_pos x ⟨#[10]⟩
  generalize Txt.split x ⟨#[10]⟩ = ps at h1 h2 h3
  have e : x.cps.toList = zeP 10 (ps.map fun p => p.cps.toList) := by rw [← zgo, h1]
  unfold zf6
  rw [e, zgn (by cases ps <;> simp_all) (fun p hp => by
    rw [List.mem_map] at hp
    obtain ⟨q, hq, rfl⟩ := hp
    exact h2 q hq), List.map_map]
  have : ∀ l : List Str, l = l.map ((fun l => (⟨l.toArray⟩ : Str)) ∘ fun p => p.cps.toList) := fun l => by
    induction l with
    | nil => rfl
    | cons a r ih => rw [List.map_cons, ← ih]; rfl
  exact this ps
theorem zh6 (ys : List Str) : Txt.join ⟨#[]⟩ ys = zkA ys := by
  unfold Txt.join glued zkA
  have key : ∀ (l : List Str) (acc : Array Nat), l.foldl (fun acc p => acc ++ (⟨#[]⟩ : Str).cps ++ p.cps) acc = acc ++ (l.flatMap fun y => y.cps.toList).toArray := fun l => by
    induction l with
    | nil => intro acc; simp
    | cons a r ih =>
      intro acc
      rw [List.foldl_cons, ih]
      apply Array.toList_inj.mp
      simp
  cases ys with
  | nil => rfl
  | cons a r =>
    show (⟨(r.foldl _ a.cps)⟩ : Str) = _
    rw [key]
    congr 1
    apply Array.toList_inj.mp
    simp
end L2.LW
namespace L2.LW
open PySem PySem.Spec PySem.W PySem.Calls PyProof.Rows PySem.Builtin PySem.Builtin.Str
theorem zgL {P : Program} {w : World} {A : Around} {E : Value → Shared → Prop} {s : Shared} {x y : Str} {t u : Tok} {Q : Value → Shared → Prop} (hy : (y.length == 0) = false) (hsz : x.length + 2 ≤ sizeLine)
    (h : ∀ l k, l.map (·.1) = Txt.split x y → Q (.ref s.heap.objs.size) { s with heap := s.heap.push { cls := .type "list", data := .seq (strValues l).toArray }, toks := k }) :
    wpAny (model P w) A (call (.builtin "str.split") [.str x t, .str y u]) Q E s := by
  have hn : (partsBetween x (occurrences x y 0 x.length (x.length + 1)) y.length).length ≤ sizeLine := by
    have := StrLaws.occ_length_le x y 0 x.length (x.length + 1)
    rw [length_partsBetween]; omega
  cases h1 : (decide (x.length < y.length) || decide (strKind x < strKind y)) with
  | true => exact call_meets PySem.F.slot_str_split (typeIs_str _ _ _) PySem.F.entry_str_split (PySem.F.args_str_split_2 _ _) (meets_str_split_cannot_occur x y t u h1) (h [(x, t)] s.toks (if_pos h1).symm)
  | false =>
    cases hf : (occurrences x y 0 x.length (x.length + 1)).isEmpty with
    | true => exact call_meets PySem.F.slot_str_split (typeIs_str _ _ _) PySem.F.entry_str_split (PySem.F.args_str_split_2 _ _) (meets_str_split_not_found x y t u h1 hy hf) (h [(x, t)] s.toks ((if_neg (ne_true_of_eq_false h1)).trans (if_pos hf)).symm)
    | false =>
      refine call_meets PySem.F.slot_str_split (typeIs_str _ _ _) PySem.F.entry_str_split (PySem.F.args_str_split_2 _ _) (meets_str_split_sep x y t u h1 hy hf (by omega) hn) ?_
      have q := h (numbered s.toks (partsBetween x (occurrences x y 0 x.length (x.length + 1)) y.length)) (s.toks + (partsBetween x (occurrences x y 0 x.length (x.length + 1)) y.length).length) ((numbered_texts _ _).trans ((if_neg (ne_true_of_eq_false h1)).trans (if_neg (ne_true_of_eq_false hf))).symm)
      rw [← strsFrom_eq] at q
      exact q
section
variable {X : Cx} {fn : Nat → List D → Option SV}
theorem zeQ {K : PySem.W.Frag} {W : Addr → Prop} {H : Hp} : ∀ {l : List D} {xs : List V} {ys : List Str}, Reps K W H l xs → strs? l = some ys → xs = ys.map V.str
  | [], _, _, .nil, e => by cases e; rfl
  | d :: l, _, ys, .cons h t, e => by
    cases d with
    | str x =>
      simp only [strs?, jo2] at e
      obtain ⟨zs, e1, rfl⟩ := e
      rw [zeQ t e1]
      cases h
      rfl
    | _ => cases e
theorem zeR : ∀ {ys : List Str} {us : List Value}, Vals (ys.map V.str) us → StrsAre us ys
  | [], _, .nil => .nil
  | y :: ys, _, .cons h t => by
    obtain ⟨u, rfl⟩ := h
    exact .cons y u (zeR t)
theorem zeS : ∀ (l : List (Str × Tok)), Vals ((l.map (·.1)).map V.str) (strValues l)
  | [] => .nil
  | p :: r => .cons ⟨p.2, rfl⟩ (zeS r)
theorem zcu {K : PySem.W.Frag} {W : Addr → Prop} {H : Hp} : ∀ (ys : List Str), Reps K W H (ys.map D.str) (ys.map V.str)
  | [] => .nil
  | y :: ys => .cons (.str y) (zcu ys)
theorem zja : MtR X "str.join" (fun x xs H Q => x = .str ⟨#[]⟩ ∧ VR X.K (zai .join0) xs H Q) := by
  rintro pins s σ H x xs v us Q I rx rs ⟨rfl, W, ds, r, wf, hs, hf, q⟩
  obtain ⟨t, rfl⟩ := rx
  replace hf : zhu ds = some r := hf
  unfold zhu at hf
  split at hf
  case h_2 => cases hf
  rename_i l
  rw [jo1] at hf
  obtain ⟨ys, e1, hf⟩ := hf
  split at hf
  case isFalse => cases hf
  rename_i hl
  cases hf
  cases hs with
  | cons h1 t1 =>
    cases t1
    obtain ⟨p, zs, rfl, hp, rp⟩ := h1.lst
    have ez := zeQ rp e1
    subst ez
    obtain ⟨u, rfl, ru⟩ := zfA rs
    cases ru
    obtain ⟨its, rv, pl, hz⟩ := I.list hp
    refine join_list (ys := ys) pl.isList (by simpa using zeR rv) (by show _ + _ * 0 ≤ _; omega) fun t' k => ?_
    rw [zh6]
    exact ⟨.str _, H, I.tok k, ⟨t', rfl⟩, q _ H (.refl H) (.val (.str _))⟩
theorem zjb : MtR X "str.split" (fun x xs H Q => xs = [.str ⟨#[10]⟩] ∧ VR X.K (zai .splitN) [x] H Q) := by
  rintro pins s σ H x xs v us Q I rx rs ⟨rfl, W, ds, r, wf, hs, hf, q⟩
  obtain ⟨d, rfl, h1⟩ := pr1 hs
  replace hf : zcU [d] = some r := hf
  unfold zcU at hf
  split at hf
  case h_2 => cases hf
  rename_i y z
  cases z
  split at hf
  case isFalse => cases hf
  rename_i hl
  cases hf
  cases h1.str
  obtain ⟨t, rfl⟩ := rx
  obtain ⟨u, rfl, ru⟩ := zfA rs
  obtain ⟨t2, rfl⟩ := ru
  have sl := sizeLine_eq
  refine zgL rfl (by omega) fun l k e => ?_
  rw [zdJ] at e
  have hlen : (zf6 y).length ≤ sizeLine := by
    rw [← zdJ]; have := split_le y ⟨#[10]⟩; omega
  have rv := zeS l
  rw [e] at rv
  exact ⟨.ref _, _, I.lnew (t' := k) rv (by rw [List.length_map]; exact hlen), rfl, q _ _ (zaN I.fresh _) (zfD I.fresh (zcu _))⟩
theorem zk3 : OpR X (binaryOp .Add) (VR2 X.K (zai .addS)) := by
  rintro pins s σ H x y v u Q I rx ry ⟨W, ds, r, wf, hs, hf, q⟩
  obtain ⟨d, e, rfl, h1, h2⟩ := pr2 hs
  replace hf : zkz [d, e] = some r := hf
  unfold zkz at hf
  split at hf
  case h_2 => cases hf
  rename_i a b z
  cases z
  split at hf
  case isFalse => cases hf
  rename_i hl
  cases hf
  cases h1.str; cases h2.str
  have sl := sizeLine_eq
  exact zgC pins s σ H _ _ v u Q I rx ry ⟨a, b, rfl, rfl, by omega, q _ H (.refl H) (.val (.str _))⟩
end
end L2.LW
set_option maxHeartbeats 4000000
namespace L2.LW
open PySem PySem.Spec PySem.W PySem.Calls PyProof.Rows
section
variable {X : Cx} {fn : Nat → List D → Option SV} {fa : Nat → List D → Option Ans} {fuel : Nat} {a b c e : Expr} {ca cb cc ce : E} {pos p : Pos} {x : Str}
theorem zh7 {j : Nat} {p1 apos cpos : Pos} (he : IE X fn e ce) (hx : x = ⟨#[]⟩) (hst : starEach [e] X.env = (false, eval e X.env) :: starEach [] X.env)
    (hbase : attributeBase (.Constant (.str x) j p1) "join" X.env (eval (.Constant (.str x) j p1) X.env) = eval (.Constant (.str x) j p1) X.env := by rfl) (hline : (apos.endLine == cpos.line) = true := by rfl) :
    IE X fn (.Call (.Attribute (.Constant (.str x) j p1) "join" apos) [e] [] cpos) (.prim .join0 (.cons ce .nil)) :=
  .mk <| (zks PySem.F.plainAttrs_str PySem.F.slot_str_join PySem.F.type_str_join zja zbn (za3 he.v zbY hst) hbase (by rw [hst]; rfl) hline hst zak).imp fun σ H Q zz3 => by
    obtain ⟨W, ρ, r, hR, h, q⟩ := zz3
    simp only [zbi, zba, za1, jo1, jo2] at h
    obtain ⟨rs, ⟨r1, e1, rs', e3, rfl⟩, e4⟩ := h
    cases e3
    refine ⟨rfl, W, ρ, r1, hR, e1, fun v1 H1 s1 f1 => ⟨by rw [hx], zcg hR s1 (.cons f1 .nil) e4 q⟩⟩
theorem zk4 {j : Nat} {p1 apos cpos : Pos} (he : IE X fn e ce) (hx : x = ⟨#[10]⟩) (hbase : attributeBase e "split" X.env (eval e X.env) = eval e X.env := by rfl) (hline : (apos.endLine == cpos.line) = true := by rfl) :
    IE X fn (.Call (.Attribute e "split" apos) [.Constant (.str x) j p1] [] cpos) (.prim .splitN (.cons ce .nil)) :=
  .mk <| (zks PySem.F.plainAttrs_str PySem.F.slot_str_split PySem.F.type_str_split zjb he.v (za3 zbn zbY zac) hbase (by rw [zac]; rfl) hline zac zak).imp fun σ H Q zz3 => by
    obtain ⟨W, ρ, r, hR, h, q⟩ := zz3
    simp only [zbi, zba, za1, jo1, jo2] at h
    obtain ⟨rs, ⟨r1, e1, rs', e3, rfl⟩, e4⟩ := h
    cases e3
    refine ⟨W, ρ, r1, hR, e1, fun v1 H1 s1 f1 => ?_⟩
    have e5 : zcU [za0 r1] = some r := e4
    unfold zcU at e5
    split at e5
    case h_2 => cases e5
    rename_i y z
    have z1 : za0 r1 = .str y := by simpa using z
    have hs := f1.sees
    rw [z1] at hs
    cases hs.str
    exact ⟨rfl, by rw [hx], zcg hR s1 (.cons f1 .nil) e4 q⟩
end
theorem zeT : ∀ {k n : Nat} {l : List D} {d : D}, (zbI n l)[k]? = some d → ∃ x, l[k]? = some x ∧ d = .tup [.int ((n + k : Nat) : Int), x]
  | _, _, [], _, h => by simp [zbI] at h
  | 0, n, x :: l, d, h => by
    simp only [zbI, List.getElem?_cons_zero, Option.some.injEq] at h
    exact ⟨x, rfl, h.symm⟩
  | k + 1, n, x :: l, d, h => by
    simp only [zbI, List.getElem?_cons_succ] at h
    obtain ⟨y, h1, h2⟩ := zeT h
    refine ⟨y, by simpa using h1, ?_⟩
    rw [h2]
    congr 3
    omega
theorem zeU : ∀ (n : Nat) (l : List D), (zbI n l).length = l.length
  | _, [] => rfl
  | n, _ :: l => by simp [zbI, zeU (n + 1) l]
noncomputable def YE (K : PySem.W.Frag) (J : It) (W : Addr → Prop) (H : Hp) (ds : List D) : Prop :=
  ∀ W' H', Ext W H W' H' → ∀ k : Nat, (k = ds.length → J.stop k H') ∧ ∀ d, ds[k]? = some d → J.go k H' ∧ ∀ x H'', J.yld k H' x H'' → Same H' H'' ∧ Rep K W' H'' d x
section
variable {X : Cx} {fn : Nat → List D → Option SV} {fa : Nat → List D → Option Ans} {fuel : Nat} {e : Expr} {ce : E} {pos p : Pos} {sts : List Stmt} {ss : Ss} {elts : List Expr} {kt : Nat} {pt pos' : Pos}
noncomputable def tEn (K : PySem.W.Frag) (fn : Nat → List D → Option SV) (c : E) : TI := fun σ H R0 => ∃ W ρ r ds, R K W ρ σ H ∧ evE fn c ρ = some r ∧ ziP r = some ds ∧ ∀ J H1, Same H H1 → YE K J W H1 ds → R0 J H1
theorem zkb {K : PySem.W.Frag} {W : Addr → Prop} {H : Hp} {xs : List V} {l : List D} {itm : Nat → Option V} {ok : Hp → Prop} {n : Nat} (hn : n = l.length) (hi : ∀ i : Nat, itm i = xs[i]?) (hok : ∀ W' H', Ext W H W' H' → ok H') (hr : ∀ W' H', Ext W H W' H' → Reps K W' H' l xs) : YE K (Ite n itm ok) W H (zbI 0 l) := by
  intro W' H' x k
  rw [zeU]
  refine ⟨fun z => ⟨by omega, hok W' H' x⟩, fun d hd => ?_⟩
  obtain ⟨y, h1, rfl⟩ := zeT hd
  have lt : k < l.length := (List.getElem?_eq_some_iff.mp h1).1
  refine ⟨⟨by omega, hok W' H' x⟩, ?_⟩
  rintro v H'' ⟨q, w, hq, rfl, rfl, hw⟩
  have sm : Same H' (upd H' q (.tup [.int k, w])) := zaN hq _
  refine ⟨sm, ?_⟩
  obtain ⟨w', g1, g2⟩ := (hr W' H' x).get h1
  rw [hi, g1] at hw
  cases hw
  rw [Nat.zero_add]
  exact .tup zaL (.cons (.int _) (.cons (g2.ext (.same sm)) .nil))
theorem zk5 (hg : Gl X "enumerate") (hm : X.mg "enumerate" = Option.none) (he : IE X fn e ce) (hst : starEach [e] X.env = [(false, eval e X.env)]) :
    PI X (.Tuple elts kt pt) (.Call (.Name "enumerate" p) [e] [] pos) (tEn X.K fn ce) := by
  intro pins s σ H R0 I ⟨W, ρ, r, ds, hR, h1, h2, q1⟩
  refine wpAny_Call_Name_kw (zdz I hg hm PyProof.Rows.boot_enumerate ?_ (by decide) (by decide))
  have hA := (za3 he.v zbY hst) pos pins s σ H (fun vs H1 => ∃ v, vs = [v] ∧ Same H H1 ∧ Frz X.K W H1 r v) I ⟨W, ρ, r, hR, h1, fun v H1 s1 f1 => ⟨v, rfl, s1, f1⟩⟩
  refine PyProof.Rows.callWith_type1 (thn hA fun us s1 ⟨vs, H1, I1, rv, v, hv, s01, f1⟩ => ?_) hst zak
  subst hv
  obtain ⟨u, rfl, ru⟩ := zfA rv
  unfold ziP at h2
  split at h2
  · rename_i l
    cases h2
    cases f1 with
    | @lis d q o hw hH ro =>
      cases ro with
      | @lst xs ds' rp =>
        cases ru
        obtain ⟨its, rv2, pl, hz⟩ := I1.list (SqL.of hH)
        refine call_enumerate_list pl.isList fun h' en li sz kp => ?_
        refine wpAny_pyIter_enum en ?_
        have I2 : Inv X pins σ H1 { s1 with heap := h' } := I1.kept (t' := s1.toks) kp
        refine ⟨s1.heap.objs.size + 1, [s1.heap.objs.size + 1, s1.heap.objs.size], _, _, H1, rfl, I2, zgI (xs := xs) q s1.heap.objs.size (s1.heap.objs.size + 1) (Nat.succ_ne_self _), ⟨⟨_, en⟩, li⟩, fun b hb => ?_, q1 _ H1 s01 (zkb (xs := xs) rp.length.symm (fun _ => rfl) (fun W' H' x => .of (x.keep _ _ hH hw)) fun W' H' x => rp.ext x)⟩
        rcases List.mem_cons.mp hb with rfl | hb
        · exact I1.fpOk (Nat.le_succ _) (I1.hok.fresh (Nat.le_succ _))
        · obtain rfl := List.mem_singleton.mp hb
          exact I1.fpOk (Nat.le_refl _) (I1.hok.fresh (Nat.le_refl _))
  · rename_i y ap
    cases h2
    cases f1 with
    | val h =>
      cases h
      obtain ⟨t, rfl⟩ := ru
      refine call_enumerate_str fun h' en li sz kp => ?_
      refine wpAny_pyIter_enum en ?_
      have I2 : Inv X pins σ H1 { s1 with heap := h' } := I1.kept (t' := s1.toks) kp
      have rp : ∀ (W' : Addr → Prop) (H' : Hp), Reps X.K W' H' (zf7 y) (zgJ y) := fun W' H' => by
        unfold zf7 zgJ
        induction y.cps.toList with
        | nil => exact .nil
        | cons c r ih => exact .cons (.str _) ih
      refine ⟨s1.heap.objs.size + 1, [s1.heap.objs.size + 1, s1.heap.objs.size], _, _, H1, rfl, I2, zgK (x := y) (t := t) s1.heap.objs.size (s1.heap.objs.size + 1) (Nat.succ_ne_self _), ⟨⟨_, en⟩, li⟩, fun b hb => ?_, q1 _ H1 s01 (zkb (xs := zgJ y) (by simp [zf7]) (fun _ => rfl) (fun _ _ _ => trivial) fun W' H' x => rp W' H')⟩
      rcases List.mem_cons.mp hb with rfl | hb
      · exact I1.fpOk (Nat.le_succ _) (I1.hok.fresh (Nat.le_succ _))
      · obtain rfl := List.mem_singleton.mp hb
        exact I1.fpOk (Nat.le_refl _) (I1.hok.fresh (Nat.le_refl _))
  · cases h2
theorem zh8 {K : PySem.W.Frag} {J : It} {ds : List D} {i j : Nat} {ex : LW.Env → Option (Fl × LW.Env)} {W : Addr → Prop} {ρ : LW.Env} {σ : St} {H : Hp} {x : Fl × LW.Env} {D0 : Ends} (hR : R K W ρ σ H) (hfi : ¬ zeG ρ i) (hfj : ¬ zeG ρ j) (hy : YE K J W H ds)
    (hx : zdq i j ex ds ρ = some x) (q : ∀ W' σ' H', SPost K W ρ σ H W' x.2 σ' H' → FlOk K W ρ σ W' x.2 σ' H' D0 x.1) :
    ∃ Wv : Nat → Nat → St → Hp → Prop, (∃ m, Wv 0 m σ H) ∧ ∀ k m σ' H', Wv k m σ' H' →
      (J.stop k H' ∧ D0.nx σ' H') ∨ (J.go k H' ∧ ∃ N : St → Hp → Prop, (∀ σ2 H2, N σ2 H2 → ∃ m', m' < m ∧ Wv (k + 1) m' σ2 H2) ∧ ∀ v H2, J.yld k H' v H2 → zrS K 2 (zkl (zgy i) (zkl (zgy j) zrR)) v σ' H2 fun σ2 H2 => tSs K ex { D0 with nx := N, ct := N, bk := D0.nx } σ2 H2) := by
  refine ⟨fun k m σ' H' => m = ds.length - k ∧ k ≤ ds.length ∧ ∃ W' ρ', SPost K W ρ σ H W' ρ' σ' H' ∧ zdq i j ex (ds.drop k) ρ' = some x, ⟨_, rfl, Nat.zero_le _, W, ρ, .same hR (.refl H), hx⟩, ?_⟩
  rintro k m σ' H' ⟨rfl, hk, W', ρ', p0, hf⟩
  obtain ⟨hstop, hgo⟩ := hy W' H' (p0.ext hR) k
  by_cases hlt : k < ds.length
  · have hd : ds[k]? = some ds[k] := by simp [hlt]
    obtain ⟨g1, g2⟩ := hgo _ hd
    rw [zeK hd] at hf
    generalize ds[k] = dk at hf g2
    unfold zdq at hf
    split at hf
    · rename_i z; cases z
    · rename_i a b r z
      injection z with z1 z2
      subst z1 z2
      rw [jo1] at hf
      obtain ⟨⟨fl, ρ2⟩, e1, e2⟩ := hf
      refine .inr ⟨g1, fun σ2 H2 => (ds.length - (k + 1)) = ds.length - (k + 1) ∧ k + 1 ≤ ds.length ∧ ∃ W' ρ', SPost K W ρ σ H W' ρ' σ2 H2 ∧ zdq i j ex (ds.drop (k + 1)) ρ' = some x, fun σ2 H2 h => ⟨_, by omega, h⟩, fun v H2 y => ?_⟩
      obtain ⟨sm, rv⟩ := g2 v H2 y
      have p := p0.trans (SPost.same p0.r sm) hR
      cases rv with
      | tup hH rp =>
        cases rp with
        | cons ra rp =>
          cases rp with
          | cons rb rp =>
            cases rp
            refine ⟨_, _, rfl, .of hH, rfl, _, _, rfl, _, _, rfl, rfl, ?_⟩
            have p1 := zbu (i := i) p.r (.refl H2) ra fun z => hfi ((p.io i).1.mp z)
            have p2 := zbu (i := j) p1.r (.refl H2) rb fun z => hfj ((p.io j).1.mp ((p1.io j).1.mp z))
            have p01 := (p.trans p1 hR).trans p2 hR
            refine ⟨W', _, (fl, ρ2), p2.r, e1, fun W3 σ3 H3 p3 => ?_⟩
            have p03 := p01.trans p3 hR
            cases fl with
            | nx => exact ⟨rfl, hlt, W3, ρ2, p03, e2⟩
            | ct => exact ⟨rfl, hlt, W3, ρ2, p03, e2⟩
            | br => cases e2; exact q W3 σ3 H3 p03
            | rt r => cases e2; exact fun v hv => q W3 σ3 H3 p03 v (hv.back p01)
    · cases hf
  · have e : k = ds.length := by omega
    rw [List.drop_of_length_le (by omega), zdq] at hf
    cases hf
    exact .inl ⟨hstop e, q W' σ' H' p0⟩
theorem zkc (i j : Nat) {x y : Str} {px py : Pos} (hp : PassesOwn (model X.prog X.w) X.A X.env X.xe) (hc : X.calm = true) (hN : X.N.Nodup) (hi : X.N[i]? = some x) (hx : Loc X.env.scope x) (hj : X.N[j]? = some y) (hy : Loc X.env.scope y)
    (hg : Gl X "enumerate") (hm : X.mg "enumerate" = Option.none) (he : IE X (prj fa) e ce) (hst : starEach [e] X.env = [(false, eval e X.env)]) (hb : ISs X (za4 fa fuel ss) sts)
    (hf : X.fn x = true ∨ X.env.scope.names.lookup x = some .local := by first | exact .inl rfl | exact .inr rfl | assumption) (hf2 : X.fn y = true ∨ X.env.scope.names.lookup y = some .local := by first | exact .inl rfl | exact .inr rfl | assumption)
    (hfo : ∀ z, foldedSetIterable (.Call (.Name "enumerate" p) [e] [] pos) X.env z = pure z := by intro _; rfl) :
    IS X (exS fa fuel (.forE i j ce ss)) (.For (.Tuple [.Name x px, .Name y py] kt pt) (.Call (.Name "enumerate" p) [e] [] pos) sts [] pos') :=
  .mk <| (zl8 hp hc (zk5 hg hm he hst) (zl7 hc (zf0 (zfy hN hi hx hf) (zf0 (zfy hN hj hy hf2) zkm))) hb.h hfo).imp fun D0 σ H zz3 => by
    obtain ⟨W, ρ, y, hR, hy, q⟩ := zz3
    simp only [zkH, jo1] at hy
    obtain ⟨r, e1, e2⟩ := hy
    split at e2
    · cases e2
    · rename_i hl
      simp only [Bool.not_eq_true, Bool.or_eq_false_iff, Bool.not_eq_false'] at hl
      rw [jo1] at e2
      obtain ⟨ds, e3, e4⟩ := e2
      refine ⟨W, ρ, r, ds, hR, e1, e3, fun J H1 s1 hyl => ?_⟩
      have p1 := SPost.same hR s1
      exact zh8 p1.r (zdX hl.1) (zdX hl.2) hyl e4 fun W' σ' H' p => FlOk.back p1 (q W' σ' H' (p1.trans p hR))
end
end L2.LW
set_option maxHeartbeats 4000000
namespace L2.LW
open PySem PySem.Spec PySem.W PySem.Calls PyProof.Rows Builtin Builtin.ObjectAttr Builtin.Getset_descriptor
noncomputable def Lies (x D : Addr) (h : Heap) : Prop := ∃ o : Obj, h.get? x = some o ∧ o.cls = .ref D
theorem Lies.ty {x D : Addr} {M : Model} {h : Heap} (I : Lies x D h) : Looks M h (typeOf (.ref x)) (.ref D) := by
  obtain ⟨o, e1, e2⟩ := I
  exact e2 ▸ (Looks.ld e1).andThen .now
section
variable {prog : Program} {w : World} {A : Around} {E : Value → Shared → Prop} {s : Shared} {K : PySem.W.Frag} {x C D : Addr}
structure Asks (K : PySem.W.Frag) (D : Addr) : Prop where
  g : findIn K (.ref D) "__getattribute__" = some (some (.builtin "BaseException.__getattribute__"))
  h : findIn K (.ref D) "__getattr__" = some Option.none
  c : (clsIn K D).isSome = true
  a : findIn K (.ref D) "__class__" = some (some (.builtin "object.__class__"))
  n : specialIn K (.builtin "object.__class__") "__get__" = some (some (.builtin "getset_descriptor.__get__"))
  t : takesIn K (.builtin "object.__class__") = some true
  m : mroIn K D (.type "object") = some true
  e : mroIn K D (.type "BaseException") = some true
theorem Asks.find (Z : Asks K D) {M : Model} {h : Heap} (X : K.In h) : Looks M h (Builtin.ObjectAttr.find (.ref x) (.ref D) "__class__") (.bind (.builtin "getset_descriptor.__get__") (.builtin "object.__class__")) :=
  (looks_findIn X Z.a).andThen ((looks_specialIn X Z.n).andThen ((show Looks M h (dataDescriptor? (some (.builtin "object.__class__")) (some (.builtin "getset_descriptor.__get__"))) (some _) from (looks_takesIn X Z.t).andThen .now).andThen (Looks.tag .now)))
theorem zh9 : splitId "BaseException.__getattribute__" = some ("BaseException", "__getattribute__") := by decide +kernel
theorem zgp : builtinKind "BaseException.__getattribute__" = some .slot := by decide +kernel
theorem zia : plainId "BaseException.__getattribute__" = true := by decide +kernel
theorem zib : entryFor table "BaseException.__getattribute__" = some Builtin.«object.__getattribute__» :=
  entryFor_alias (id' := "object.__getattribute__") (by kernel_rfl) (by first | rfl | decide +kernel) (by decide +kernel) (by kernel_rfl)
theorem zjc (a b : Value) : argsOk "BaseException.__getattribute__" ⟨[a, b], []⟩ := by unfold argsOk; kernel_rfl
theorem zjd (u : Value) : bindSpecial (.builtin "BaseException.__getattribute__") u = pure (.builtin "BaseException.__getattribute__", [u]) := by
  have n1 : withoutEnding? "BaseException.__getattribute__" "#opaque" = Option.none := by decide +kernel
  have n2 : withoutEnding? "BaseException.__getattribute__" "#data" = Option.none := by decide +kernel
  simp only [bindSpecial, typeOf, builtinType, n1, n2, zgp]
  rfl
theorem Asks.check (Z : Asks K D) {M : Model} {zbX : List Value} {Q : Unit → Shared → Prop} (X : K.In s.heap) (I : Lies x D s.heap) (ok : argsOk "BaseException.__getattribute__" ⟨.ref x :: zbX, []⟩) (q : Q () s) :
    wpAny M A (checkBuiltinCall "BaseException.__getattribute__" ⟨.ref x :: zbX, []⟩) Q E s := by
  obtain ⟨hp, gn, dw, tt, os⟩ := s
  have T0 : Looks M hp (isInstance (.ref x) (.type "BaseException")) true := (Lies.ty (M := M) I).andThen (looks_mroIn X Z.e)
  simp only [checkBuiltinCall, zgp, zh9]
  refine wpAny_bind (T0.at ?_)
  simp only [Bool.not_true, Bool.false_eq_true, if_false]
  cases hs : Manifest.signature? "BaseException.__getattribute__" with
  | none => exact wpAny_pure q
  | some sg =>
    simp only [argsOk, hs] at ok
    have ok2 : Bind.checkArgs "BaseException.__getattribute__" sg ⟨.ref x :: zbX, []⟩ = pure () := ok
    show wpAny M A (Bind.checkArgs _ sg _) Q E _
    rw [ok2]
    exact wpAny_pure q
theorem Asks.got (Z : Asks K D) {tp : Value} {R : Result → Shared → Prop} (X : K.In s.heap) (I : Lies x D s.heap) (q : R (.ok (.ret (.ref D))) s) :
    codeAny (model prog w) A (.call (.builtin "getset_descriptor.__get__") ⟨[.builtin "object.__class__", .ref x, tp], []⟩) R s := by
  obtain ⟨hp, gn, dw, tt, os⟩ := s
  have T0 : Looks (model prog w) hp (typeOf (.ref x)) (.ref D) := Lies.ty I
  have T1 := looks_mroIn (M := model prog w) X Z.m
  refine codeAny_call_builtin KF.slot_gs.plain KF.entry_gs (KF.slot_gs.check _ _ _ _ _ _ _ _ KF.type_class (KF.args_gs _ _ _) ?_)
  unfold Builtin.«getset_descriptor.__get__» descrGet
  rw [dga_obj]
  refine wpAny_bind (wpAny_pure ?_)
  unfold descrGetter descrCheckInstance descrNameAndClass isInstance
  simp only [KF.owner_class]
  repeat lk
  refine ⟨Code.quiet_builtin _ (by decide +kernel), codeAny_builtin KF.entry_class ?_⟩
  unfold Builtin.«object.__class__» shownTypeOf
  repeat lk
  exact q
theorem Asks.entry (Z : Asks K D) {tk : Tok} {Q : Fin → Shared → Prop} (X : K.In s.heap) (I : Lies x D s.heap) (q : Q (.done (.ret (.ref D))) s) :
    wpAny (model prog w) A (Builtin.«object.__getattribute__» ⟨[.ref x, .str "__class__" tk], []⟩) Q E s := by
  obtain ⟨hp, gn, dw, tt, os⟩ := s
  have T0 : Looks (model prog w) hp (typeOf (.ref x)) (.ref D) := Lies.ty I
  have T1 := Z.find (x := x) (M := model prog w) X
  refine wpAny_bind (wpAny_pure (wpAny_bind (wpAny_pure (wpAny_bind (T0.at (wpAny_bind (T1.at ?_)))))))
  show wpAny _ _ (holding [.builtin "object.__class__"] (call (.builtin "getset_descriptor.__get__") [.builtin "object.__class__", .ref x, .ref D]) >>= ret) _ _ _
  exact wpAny_bind (wpAny_holding (wpAny_call (Z.got X I (wpAny_pure q))))
theorem Asks.attr (Z : Asks K D) {Q : Option Value → Shared → Prop} (X : K.In s.heap) (I : Lies x D s.heap) (q : Q (some (.ref D)) { s with toks := s.toks + 1 }) : wpAny (model prog w) A (getAttr? (.ref x) "__class__") Q E s := by
  obtain ⟨hp, gn, dw, tt, os⟩ := s
  have T0 : Looks (model prog w) hp (typeOf (.ref x)) (.ref D) := Lies.ty I
  have T1 := looks_findIn (M := model prog w) X Z.g
  have T2 := looks_findIn (M := model prog w) X Z.h
  unfold getAttr? getAttrBy? getAttrBy
  refine wpAny_bind (wpAny_mkText (wpAny_bind (wpAny_attempt (wpAny_holding (wpAny_bind (T0.at (wpAny_bind (T1.at ?_))))))))
  show wpAny _ _ (getAttrByItsOwn _ _ _ _ _ _) _ _ _
  unfold getAttrByItsOwn hookBefore
  refine wpAny_bind (T2.at ?_)
  refine wpAny_bind (wpAny_attempt (wpAny_holding ?_))
  show wpAny _ _ (bindSpecial (.builtin "BaseException.__getattribute__") (.ref x) >>= _) _ _ _
  refine wpAny_bind (wpAny_of_eq (zjd _) ?_)
  refine wpAny_call (codeAny_call_builtin zia zib (Z.check (s := ⟨hp, gn, dw, tt + 1, os⟩) X I (zjc _ _) (Z.entry (s := ⟨hp, gn, dw, tt + 1, os⟩) X I ?_)))
  exact wpAny_mono (handed_on (Q := fun v s' => v = .ref D ∧ s' = ⟨hp, gn, dw, tt + 1, os⟩) rfl ⟨rfl, rfl⟩) (fun v s' z => by obtain ⟨rfl, rfl⟩ := z; exact wpAny_pure q) fun _ _ z => z
theorem isT {M : Model} {h : Heap} {B : Addr} (X : K.In h) (e : (clsIn K B).isSome = true) : Looks M h (isType (.ref B)) true := by
  unfold clsIn at e
  split at e
  case h_2 => cases e
  rename_i ho
  intro A1 Q1 E1 s1 k q
  unfold isType loadHead
  exact wpAny_bind (wpAny_loadPart (k _ _ (X _ _ ho)) (wpAny_pure q))
theorem Asks.nested (Z : Asks K D) {c : Value} {dep : Int} {tk : Tok} {Q : Fin → Shared → Prop} (X : K.In s.heap) (I : Lies x D s.heap) (ty : Looks (model prog w) s.heap (typeOf c) (.type "type")) (it : Looks (model prog w) s.heap (isType c) true)
    (ne : (Value.ref D == c) = false) (sb : Looks (model prog w) s.heap (isSubtype (.ref D) c) false) (q : Q (.done (.ret (.bool false))) { s with toks := s.toks + 1 }) :
    wpAny (model prog w) A (Builtin.«isinstance.nested» ⟨[.ref x, c, .int dep tk], []⟩) Q E s := by
  obtain ⟨hp, gn, dw, tt, os⟩ := s
  have T0 : Looks (model prog w) hp (typeOf (.ref x)) (.ref D) := Lies.ty I
  have TD : Looks (model prog w) hp (isType (.ref D)) true := isT X Z.c
  have TI : Looks (model prog w) hp (isInstance (.ref x) c) false := T0.andThen sb
  unfold Builtin.«isinstance.nested»
  refine wpAny_bind (T0.at ?_)
  rw [if_neg (by rw [ne]; decide)]
  refine wpAny_bind (ty.at ?_)
  rw [if_pos (by decide)]
  k_delta "plainIsInstance"
  refine wpAny_bind (wpAny_bind (it.at ?_))
  simp only [Bool.not_true, Bool.false_eq_true, if_false]
  refine wpAny_bind (TI.at ?_)
  simp only [Bool.false_eq_true, if_false]
  refine wpAny_bind (Z.attr X I ?_)
  refine wpAny_bind (TD.at ?_)
  simp only [Bool.not_true, Bool.false_eq_true, if_false]
  refine wpAny_bind (wpAny_rule ?_)
  refine sb.at ?_
  first
    | exact wpAny_pure q
    | exact wpAny_pure (wpAny_pure q)
    | exact wpAny_bind (wpAny_pure (wpAny_pure q))
theorem Asks.not (Z : Asks K D) {Q : Value → Shared → Prop} (X : K.In s.heap) (I : Lies x D s.heap) (e : kin_not K D C = true) (q : Q (.bool false) { s with toks := s.toks + 1 }) : wpAny (model prog w) A (call (.builtin "isinstance") [.ref x, .ref C]) Q E s := by
  unfold kin_not at e
  simp only [Bool.and_eq_true, decide_eq_true_eq, beq_iff_eq] at e
  obtain ⟨⟨⟨e0, e1⟩, e2⟩, e3⟩ := e
  refine call_isinstance (S := fun _ R s => (K.In s.heap ∧ Lies x D s.heap) ∧ R (.ok (.ret (.bool false))) { s with toks := s.toks + 1 }) (fun _ _ _ _ _ hs => isinstance_outer (Z.nested hs.1.1 hs.1.2 (looks_typeIn hs.1.1 e2) (isT hs.1.1 e1) ?_ (looks_subIn hs.1.1 e3) hs.2) (by intro z; cases z)) ⟨⟨X, I⟩, q⟩
  exact Bool.eq_false_iff.mpr fun z => e0 (Value.ref.inj (beq_iff_eq.mp z))
end
noncomputable def zoB (k : Nat) (a : Addr) (b : Bool) : TE := fun σ H Q => σ[k]? = some (some (.ref a)) ∧ Q (.bl b) H
section
variable {X : Cx} {pins : List (Addr × Obj)} {σ : St} {H : Hp} {s : Shared} {a : Addr} {o : Obj}
theorem zm4 {k : Nat} {n y : Str} {D C : Addr} {p p1 p2 pos : Pos} (hN : X.N[k]? = some n) (hv : Vis X.env.scope n) (hd : (n == ("__debug__" : Str)) = false) (hcd : (n == ("__classdict__" : Str)) = false)
    (ho : o.cls = .ref D) (Z : Asks X.K D) (hc : kin_not X.K D C = true) (hg : Gl X "isinstance") (hm : X.mg "isinstance" = Option.none) (hy : PE (zd8 X a o) (.Name y p2) (tC (.ref C)))
    (h1 : starEach [Expr.Name n p1, .Name y p2] X.env = (false, eval (.Name n p1) X.env) :: starEach [Expr.Name y p2] X.env) (h2 : starEach [Expr.Name y p2] X.env = (false, eval (.Name y p2) X.env) :: starEach [] X.env)
    (hpl : (backTo pos (starEach [Expr.Name y p2] X.env)).any (·.1) = false) :
    PE (zd8 X a o) (.Call (.Name "isinstance" p) [.Name n p1, .Name y p2] [] pos) (zoB k a false) := by
  have cr : CallR (zd8 X a o) (.builtin "isinstance") (fun vs H Q => vs = [.ref a, .ref C] ∧ Q (.bl false) H) := by
    rintro pins s σ H xs us Q I rv ⟨rfl, q⟩
    cases rv with
    | cons r1 rv =>
      cases rv with
      | cons r2 rv =>
        cases rv
        cases r1
        cases r2
        have pin := I.pin (a, o) (List.mem_append_left _ List.mem_cons_self)
        exact Z.not I.kIn ⟨o, pin.1, ho⟩ hc ⟨.bl false, H, I.tok _, rfl, q⟩
  refine (zcK cr hg hm PyProof.Rows.boot_isinstance (za3 (zcP hN hv hd hcd) (za3 hy zbY h2) h1) (by decide) (by decide) h1 hpl).imp fun σ H Q ⟨hk, q⟩ => ?_
  exact ⟨_, hk, rfl, q⟩
theorem zk6 {D : Ends} {cls : Value} {C0 : Addr} {k : Nat} {n y : Str} {H1 H' : Hp} {s1 s' : Shared} {B : Heap} {t : Addr} {b₀ : Stmt} {body : List Stmt} {tS : TS} {np hpos : Pos} {zbX : List ExceptHandler}
    (I : Inv X pins σ H1 s1) (hst : X.stack = X.env :: X.outer) (hfr : X.env.frame = some X.env.locals) (os : s'.os = s1.os) (bare : AllBare s'.gens) (u : Un (frs X.stack) [] H1 H' s1.heap s'.heap) (ok : HOk X.prog X.w H' s'.heap)
    (fl : Heap.FlyingW B X.stack a cls (.ref t) s'.heap) (full : ∀ b o, ((∃ o0, s1.heap.get? b = some o0) ∨ H' b ≠ Option.none) → b ∉ frs X.stack → s'.heap.get? b = some o → B.get? b = some o) (he : H' a = Option.none)
    (hx : exmOne X.K cls (.ref C0) = some true) (hg : Gl X y) (hm : X.mg y = some (.ref C0)) (hdb : (y == ("__debug__" : Str)) = false) (hN : X.N.Nodup) (hi : X.N[k]? = some n) (hlo : X.env.scope.names.lookup n = some .local)
    (hs : ∀ o : Obj, o.cls = cls → PSs (zd8 X a o) (b₀ :: body) tS) (q : tS { nx := fun σ3 H3 => D.nx (σ3.set k Option.none) H3, rt := fun _ _ => False } (σ.set k (some (.ref a))) H') :
    wpAny (model X.prog X.w) X.A (noteFrame (.ref a) X.env) (fun _ s₂ => wpAny (model X.prog X.w) X.A (setFlight (.ref a) Option.none) (fun _ s₃ =>
      wpAny (model X.prog X.w) X.A (handleBy (.ref a) X.env (.ExceptHandler (some (.Name y np)) (some n) (b₀ :: body) hpos :: zbX)) (SP X pins D) X.xe s₃) X.xe s₂) X.xe s' := by
  have hin : X.env.locals ∈ frs X.stack := by
    rw [hst]; unfold frs; rw [List.filterMap_cons, hfr]; exact List.mem_cons_self
  have ain : ∀ h : Heap, Heap.FlyingW B X.stack a cls (.ref t) h → ∃ ob, h.get? a = some ob ∧ ob.cls = cls ∧ (∀ v, ob.data ≠ .cell v) ∧ a ≠ X.env.locals ∧ a ∉ X.fs := fun h f => by
    obtain ⟨oe, vs, g1, g2, g3, _⟩ := f.first
    have nf : a ∉ frs X.stack := fun hm => by
      obtain ⟨_, o2, g4, g5⟩ := f.2.2.1.mem hm
      rw [g1] at g4; cases g4
      exact g5 vs g3
    refine ⟨oe, g1, g2, ?_, fun z => nf (by rw [z]; exact hin), fun z => nf ?_⟩
    · intro v z; rw [g3] at z; cases z
    · rw [hst]; unfold frs; rw [List.filterMap_cons, hfr]; exact List.mem_cons_of_mem _ z
  refine wpAny_looks_onW (L := X.env.locals) (outer := X.outer) (by rw [← hst]; exact I.ok.frames) hfr (by rw [← hst]; exact fl) fun h4 held4 k4 => ?_
  refine wpAny_landsW held4 fun h5 fl5 k5 => ?_
  rw [← hst] at fl5
  obtain ⟨J5, -, -⟩ := Inv.flew (h' := h5) I os bare u ok fl.2.2.1 full fl5.1 (k4.trans k5)
  obtain ⟨o5, g1, g2, g3, g4, g5⟩ := ain h5 fl5
  have S5 := zh3 J5 g1 he g4 g5 g3
  refine wpAny_handleBy_cons (codeAny_handlers_test (zcQ (X := zd8 X a o5) S5 hg hm ?_ hdb)) (by intro z; cases z)
  have LT : Looks (model X.prog X.w) h5 (typeOf (.ref a)) cls := g2 ▸ (Looks.ld g1).andThen .now
  refine (exm_one (K := X.K) S5.kIn LT hx).here ?_
  refine codeAny_handlers_suite_as ?_
  refine lands_againW (base := B) (l := X.stack) fl5 fun h6 fl6 k6 => ?_
  obtain ⟨J6, -, -⟩ := Inv.flew (h' := h6) I os bare u ok fl.2.2.1 full fl6.1 ((k4.trans k5).trans k6)
  obtain ⟨o6, g1, g2, g3, g4, g5⟩ := ain h6 fl6
  have S6 := zh3 J6 g1 he g4 g5 g3
  refine zdT (X := zd8 X a o6) (i := k) (v := .ref a) S6 hN hi (.inl hlo) rfl (fun s7 I7 => ?_) (.inr hlo)
  refine wpAny_mono (hs o6 g2 pins s7 _ H' _ I7 q) (fun f s8 h8 => ?_) fun _ _ z => z.elim
  cases f with
  | next =>
    obtain ⟨σ8, H8, I8, z⟩ := h8
    obtain ⟨m, hn, hl⟩ := I8.loc
    exact wpAny_nameGoes_keeps hlo hn (by rw [I.ok.kind]; rfl) fun h9 v9 ns9 sb9 => ⟨_, _, Inv.gone (zk0 I8 I.ok) hN hi hl ns9 sb9, z⟩
  | brk => obtain ⟨_, _, _, z⟩ := h8; exact z.elim
  | cont => obtain ⟨_, _, _, z⟩ := h8; exact z.elim
  | ret u => obtain ⟨_, _, _, _, _, z⟩ := h8; exact z.elim
end
section
variable {K : PySem.W.Frag} {W W1 : Addr → Prop} {ρ ρ1 : LW.Env} {σ σ1 σF : St} {H H1 HF : Hp} {d : D} {o : HO} {i p n : Nat}
theorem zbV {x y : SV} {j : Nat} (h : ((List.replicate n (Option.none : Option SV)).set i (some x))[j]? = some (some y)) : j = i ∧ y = x := by
  rcases zaD h with ⟨rfl, z, _⟩ | ⟨_, z⟩
  · cases z; exact ⟨rfl, rfl⟩
  · rw [List.getElem?_replicate] at z
    split at z <;> cases z
theorem zm5 (h : ρ.all zqy = true) (j : Nat) : ¬ zeG ρ j := fun ⟨d, e⟩ => by
  have := List.all_eq_true.mp h _ (List.mem_of_getElem? e)
  cases this
theorem zic (p1 : SPost K W ρ σ H W1 ρ1 σ1 H1) (hR : R K W ρ σ H) (nio : ρ1.all zqy = true) (s : Same H1 HF) (hp : H1 p = Option.none) (e : HF p = some o) (rp : ORep K (add W1 p) HF d o)
    (hσ : σF[i]? = some (some (.ref p))) (hl : σF.length = n) : SPost K W ρ σ H (add W1 p) ((List.replicate n Option.none).set i (some (.obj true d))) σF HF := by
  have ow : ∀ b, Own ((List.replicate n Option.none).set i (some (.obj true d))) σF b → b = p := fun b ⟨j, x, d2, z1, z2, z3⟩ => by
    obtain ⟨rfl, rfl⟩ := zbV z1
    rw [hσ] at z3
    cases z3; rfl
  refine ⟨⟨fun j d2 hj => ?_, fun j d2 hj => ?_, fun j x d2 hj hc => ?_, fun j k x y e1 e2 b h1 h2 c1 c2 h3 h4 => ?_, zj6 p1.r.wf s e, by simp [hl]⟩, fun b o2 q nb => s b o2 (p1.keep b o2 q nb), fun b w => ?_, fun b w nb => ⟨.inl (p1.wout b w nb).1, fun z => ?_⟩, fun j => ⟨⟨fun ⟨d2, z⟩ => ?_, fun z => ?_⟩, fun z => ?_⟩⟩
  · obtain ⟨_, z⟩ := zbV hj; cases z
  · obtain ⟨_, z⟩ := zbV hj; cases z
  · obtain ⟨rfl, rfl⟩ := zbV hj
    cases hc
    exact ⟨p, o, hσ, .inr rfl, e, rp⟩
  · exact (zbV h1).1.trans (zbV h2).1.symm
  · rcases w with w | rfl
    · exact p1.win b w
    · by_cases hw : W b
      · exact .inl hw
      · cases h0 : H b with
        | none => exact .inr rfl
        | some o2 =>
          have := p1.keep b o2 h0 fun z => hw (hR.ownW z).1
          rw [hp] at this; cases this
  · have := ow b z
    subst this
    exact p1.r.wf b (p1.wout b w nb).1 hp
  · obtain ⟨_, z⟩ := zbV z; cases z
  · exact absurd ((p1.io j).1.mpr z) (zm5 nio j)
  · exact absurd ((p1.io j).1.mpr z) (zm5 nio j)
end
noncomputable def zeV (k : Nat) (a : Addr) : List Bool → TA
  | [] => zrV
  | b :: r => zmg (zoB k a b) (zeV k a r)
theorem zd9 {k : Nat} {a : Addr} {σ : St} {H : Hp} (h : σ[k]? = some (some (.ref a))) : ∀ (bs : List Bool) (Q : List V → Hp → Prop), Q (bs.map .bl) H → zeV k a bs σ H Q
  | [], _, q => q
  | b :: r, Q, q => ⟨h, zd9 h r (fun xs H2 => Q (.bl b :: xs) H2) q⟩
noncomputable def zr4 (k i : Nat) (a : Addr) (bs bs2 : List Bool) : TS := zpX (zpZ (zqd (zeV k a bs)) (zgy i)) (zpX (zpZ (tOp zrW (zrQ i) (zqd (zeV k a bs2))) (zgy i)) zl4)
theorem zm6 {k i : Nat} {a : Addr} {bs bs2 : List Bool} {σ : St} {H : Hp} {D : Ends} (hk : σ[k]? = some (some (.ref a))) (hi : i < σ.length) (ne : i ≠ k) (l1 : bs.length + bs2.length ≤ 100)
    (q : ∀ σ' H' p, σ'.length = σ.length → (∀ j, j ≠ i → σ'[j]? = σ[j]?) → σ'[i]? = some (some (.ref p)) → Same H H' → H p = Option.none → H' p = some (.lst ((bs ++ bs2).map .bl)) → D.nx σ' H') : zr4 k i a bs bs2 D σ H := by
  have sz : ∀ n : Nat, n ≤ 100 → n ≤ sizeLine := fun n h => by rw [sizeLine_eq]; omega
  refine zd9 hk _ _ ⟨sz _ (by simp; omega), fun p1 h1 => ?_⟩
  have hk1 : (σ.set i (some (.ref p1)))[k]? = some (some (.ref a)) := by rw [List.getElem?_set_ne ne]; exact hk
  refine ⟨_, List.getElem?_set_self hi, ?_⟩
  refine zd9 hk1 _ _ ⟨sz _ (by simp; omega), fun p2 h2 => ?_⟩
  have n21 : p1 ≠ p2 := fun z => by rw [← z, zaL] at h2; cases h2
  refine ⟨p1, p2, bs.map .bl, bs2.map .bl, rfl, rfl, (zau n21).trans zaL, zaL, sz _ (by simp; omega), fun p3 h3 => ?_⟩
  have s1 : Same H (upd H p1 (.lst (bs.map .bl))) := zaN h1 _
  have s2 := zaN h2 (.lst (bs2.map .bl))
  have s3 := zaN h3 (.lst (bs.map .bl ++ bs2.map .bl))
  have s13 := (s1.trans s2).trans s3
  refine q _ _ p3 (by simp) (fun j hj => ?_) (List.getElem?_set_self (by simpa using hi)) s13 ?_ (by rw [zaL, List.map_append])
  · rw [List.getElem?_set_ne (Ne.symm hj), List.getElem?_set_ne (Ne.symm hj)]
  · cases z : H p3 with
    | none => rfl
    | some o3 => have := (s1.trans s2) p3 o3 z; rw [h3] at this; cases this
noncomputable def Its (X : Cx) (cl : Nat → Value) (cs : List Nat) (k : Nat) (ks : List Nat) (es : List Expr) : Prop := ∀ c ∈ cs, ∀ (a : Addr) (o : Obj), o.cls = cl c → PA (zd8 X a o) es (zeV k a (ks.map (· == c)))
theorem zid {X : Cx} {cl : Nat → Value} {cs : List Nat} {k : Nat} : Its X cl cs k [] [] := fun _ _ _ _ _ => zbY
theorem zbF {X : Cx} {cl : Nat → Value} {cs ks : List Nat} {k k1 : Nat} {e : Expr} {es : List Expr} (h : ∀ c ∈ cs, ∀ (a : Addr) (o : Obj), o.cls = cl c → PE (zd8 X a o) e (zoB k a (k1 == c))) (t : Its X cl cs k ks es)
    (hs : starEach (e :: es) X.env = (false, eval e X.env) :: starEach es X.env) : Its X cl cs k (k1 :: ks) (e :: es) := fun c hc a o ho => za3 (h c hc a o ho) (t c hc a o ho) hs
theorem zie {K : PySem.W.Frag} {W : Addr → Prop} {H : Hp} : ∀ bs : List Bool, Reps K W H (bs.map D.bl) (bs.map V.bl)
  | [] => .nil
  | b :: r => .cons (.bl _) (zie r)
section
variable {X : Cx} {cl : Nat → Value} {E : XK} {fa : Nat → List D → Option Ans} {fuel : Nat}
theorem zm7 {b : Ts} {k nl : Nat} (i : Nat) {cs ks ks2 : List Nat} {body : List Stmt} {C0 : Addr} {n y v : Str} {es es2 : List Expr} {np lp lp2 vp vp2 vp3 bp ap ap2 hpos pos : Pos} (hst : X.stack = X.env :: X.outer) (hfr : X.env.frame = some X.env.locals)
    (hb : ∀ (pn : List (Addr × Obj)) (xe : Value → Shared → Prop) (E1 : XK), zcR (CX1 X.prog X.w) (zgH X pn xe) E1 → IXs (zgH X pn xe) cl E1 (za9 fa fuel b) body)
    (hx : ∀ c ∈ cs, exmOne X.K (cl c) (.ref C0) = some true) (hg : Gl X y) (hm : X.mg y = some (.ref C0)) (hdb : (y == ("__debug__" : Str)) = false) (hN : X.N.Nodup) (hi : X.N[k]? = some n) (hlo : X.env.scope.names.lookup n = some .local)
    (hv : X.N[i]? = some v) (hvl : Loc X.env.scope v) (hvv : Vis X.env.scope v) (hvf : X.fn v = true ∨ X.env.scope.names.lookup v = some .local) (hvd : (v == ("__debug__" : Str)) = false) (hvc : (v == ("__classdict__" : Str)) = false) (ne : i ≠ k) (hnl : X.N.length = nl) (ln : ks.length + ks2.length ≤ 100)
    (h1 : Its X cl cs k ks es) (h2 : Its X cl cs k ks2 es2) :
    IX X cl E (exT fa fuel (.tryX b k cs (.two i nl ks ks2))) (.Try body [.ExceptHandler (some (.Name y np)) (some n) [.Assign [.Name v vp] (.List es lp) ap, .Assign [.Name v vp2] (.BinOp (.Name v vp3) .Add (.List es2 lp2) bp) ap2] hpos] [] [] pos) := .mk fun pins s σ H D0 I zz6 => by
  obtain ⟨W, ρ, x, hR, hx0, q⟩ := zz6
  refine wpAny_Try_except ?_
  simp only [exT, jo1] at hx0
  obtain ⟨⟨fl, ρ1⟩, g1, g2⟩ := hx0
  have hP : zcR (CX1 X.prog X.w) (zgH X (X.pn ++ pins) fun e s₁ => wpAny (model X.prog X.w) X.A (noteFrame e X.env) (fun _ s₂ => wpAny (model X.prog X.w) X.A (setFlight e Option.none) (fun _ s₃ =>
      wpAny (model X.prog X.w) X.A (handleBy e X.env [.ExceptHandler (some (.Name y np)) (some n) [.Assign [.Name v vp] (.List es lp) ap, .Assign [.Name v vp2] (.BinOp (.Name v vp3) .Add (.List es2 lp2) bp) ap2] hpos]) (SP X pins D0) X.xe s₃) X.xe s₂) X.xe s₁)
      (fun cv _ H' => ∃ c ∈ cs, cv = cl c ∧ ∀ (σ2 : St) (a : Addr), σ2.length = X.N.length → zr4 k i a (ks.map (· == c)) (ks2.map (· == c)) { nx := fun σ3 H3 => D0.nx (σ3.set k Option.none) H3, rt := fun _ _ => False } (σ2.set k (some (.ref a))) H') := by
    rintro pins1 σ1 H1 s1 e s' I1 ⟨a, c, H', rfl, os, bare, un, ok, ⟨B, t, fl, full, he⟩, ⟨c', hc, rfl, q⟩⟩
    refine zk6 (zc3 I1) hst hfr os bare un ok fl full he (hx c' hc) hg hm hdb hN hi hlo (fun o ho => ?_) (q σ1 a I1.len)
    exact zcJ (zg9 (X := zd8 X a o) hN hv hvl (zhi (h1 c' hc a o ho)) (hf := hvf)) (zcJ (zg9 (X := zd8 X a o) hN hv hvl (zl9 (zmn (X := zd8 X a o)) (zcP hv hvv hvd hvc) (zhi (h2 c' hc a o ho))) (hf := hvf)) zfw)
  have w := (hb _ _ _ hP).h [] s σ H D0 (zm3 I) ⟨W, ρ, (fl, ρ1), hR, g1, fun W1 σ1 H1 p1 => ?_⟩
  · refine wpAny_mono w (fun f s1 h1 => ?_) fun _ _ z => z
    cases f with
    | next => exact wpAny_execs_nil (zgk h1)
    | brk => exact zgk h1
    | cont => exact zgk h1
    | ret u => exact zgk h1
  · cases fl with
    | fl f => cases g2; exact q W1 σ1 H1 p1
    | ex c =>
      simp only at g2
      split at g2
      case isFalse => cases g2
      rename_i hc
      simp only [hdX] at g2
      split at g2
      case isFalse => cases g2
      rename_i hs
      cases g2
      refine ⟨c, by simpa using hc, rfl, fun σ2 a l2 => ?_⟩
      have lk : k < σ2.length := by rw [l2]; exact (List.getElem?_eq_some_iff.mp hi).1
      have li : i < σ2.length := by rw [l2]; exact (List.getElem?_eq_some_iff.mp hv).1
      refine zm6 (List.getElem?_set_self lk) (by simpa using li) ne (by simpa using ln) fun σ' H' p e1 e2 e3 sm hp hH => ?_
      refine q (add W1 p) (σ'.set k Option.none) H' (zic p1 hR hs sm hp hH (.lst ?_) ?_ ?_)
      · have := zie (K := X.K) (W := add W1 p) (H := H') ((ks ++ ks2).map (· == c))
        rw [List.map_map, List.map_append] at this
        simpa [List.map_append, Function.comp_def] using this
      · rw [List.getElem?_set_ne (Ne.symm ne)]; exact e3
      · simp only [List.length_set] at e1 ⊢
        omega
end
end L2.LW
set_option maxHeartbeats 4000000
namespace L2.LW
open PySem PySem.Spec PySem.W PySem.Calls PyProof.Rows
noncomputable def zr5 (k : Nat) : TE := fun σ H Q => ∃ i : Int, σ[k]? = some (some (.int i)) ∧ 0 ≤ i ∧ i < 1000 ∧ ∀ y, Q (.str y) H
section
variable {X : Cx}
theorem zm8 {k : Nat} {x t1 t2 : Str} {j1 j2 p1 p2 np fp jp} (hN : X.N[k]? = some x) (hv : Vis X.env.scope x) (hd : (x == ("__debug__" : Str)) = false) (hcd : (x == ("__classdict__" : Str)) = false) (l1 : t1.length ≤ 100) (l2 : t2.length ≤ 100) :
    PE X (.JoinedStr [.Constant (.str t1) j1 p1, .FormattedValue (.Name x np) (-1) Option.none fp, .Constant (.str t2) j2 p2] jp) (zr5 k) := by
  intro pins s σ H Q I ⟨i, hk, h0, h9, q⟩
  have lo : i.natAbs.log2 < 10 := by
    by_cases z : i.natAbs = 0
    · rw [z]; decide
    · exact (Nat.log2_lt z).mpr (by omega)
  have li : (Str.ofString (toString i)).length ≤ 11 := by rw [PySem.ofString_length]; exact int_text_length_le (by decide) lo
  refine wpAny_JoinedStr ?_
  show Joins _ _ _ [eval _ _, eval _ _, eval _ _] _ _ _
  refine thn (zbn pins s σ H (fun v H1 => v = .str t1 ∧ H1 = H) I ⟨rfl, rfl⟩) fun u1 s1 z1 => ?_
  obtain ⟨v1, H1, I1, r1, rfl, rfl⟩ := z1
  obtain ⟨k1, rfl⟩ := r1
  have a0 : (Str.empty ++ t1).length = t1.length := by rw [strLen_append]; exact Nat.zero_add _
  refine ⟨t1, k1, rfl, by rw [a0, sizeLine_eq]; omega, ?_⟩
  refine wpAny_FormattedValue_plain (thn (zcP hN hv hd hcd pins s1 σ H1 (fun v H2 => v = .int i ∧ H2 = H1) I1 ⟨_, hk, rfl, rfl⟩) fun u2 s2 z2 => ?_)
  obtain ⟨v2, H2, I2, r2, rfl, rfl⟩ := z2
  obtain ⟨k2, rfl⟩ := r2
  refine wpAny_formatField_int (Nat.lt_trans lo (by decide)) ?_
  have a1 : (Str.empty ++ t1 ++ Str.ofString (toString i)).length ≤ 111 := by rw [strLen_append, a0]; omega
  refine ⟨_, _, rfl, by rw [sizeLine_eq]; exact Nat.le_trans a1 (by decide), ?_⟩
  refine thn (zbn pins _ σ H2 (fun v H3 => v = .str t2 ∧ H3 = H2) (I2.tok _) ⟨rfl, rfl⟩) fun u3 s3 z3 => ?_
  obtain ⟨v3, H3, I3, r3, rfl, rfl⟩ := z3
  obtain ⟨k3, rfl⟩ := r3
  have a2 : (Str.empty ++ t1 ++ Str.ofString (toString i) ++ t2).length ≤ 211 := by rw [strLen_append]; omega
  refine ⟨t2, k3, rfl, by rw [sizeLine_eq]; exact Nat.le_trans a2 (by decide), by rw [sizeLine_eq]; exact Nat.le_trans a2 (by decide), .str _, H3, I3.tok _, ⟨_, rfl⟩, q _⟩
variable {cl : Nat → Value} {E : XK} {fa : Nat → List D → Option Ans} {fuel : Nat} {x : Str} {e : Expr} {pos : Pos}
theorem zje {C : Addr} (k j : Nat) {np cpos : Pos} (hc : X.calm = true) (hM : zkX X E) (hq : ziA X.K C) (hcl : cl k = .ref C) (hg : Gl X x) (hm : X.mg x = some (.ref C)) (he : PE X e (zr5 j)) (hdb : (x == ("__debug__" : Str)) = false)
    (hst : starEach [e] X.env = (false, eval e X.env) :: starEach [] X.env) : IX X cl E (exT fa fuel (.raiseF k j)) (.Raise (some (.Call (.Name x np) [e] [] cpos)) Option.none pos) :=
  .mk <| (zgi hc hM hq hg hm he hdb hst).imp fun D σ H zz3 => by
    obtain ⟨W, ρ, y, hR, hz, q⟩ := zz3
    simp only [exT] at hz
    split at hz
    case h_2 => cases hz
    rename_i i hl
    split at hz
    case isFalse => cases hz
    rename_i hi
    cases hz
    have e1 : ρ[j]? = some (some (.val (.int i))) := by
      unfold look at hl
      split at hl <;> simp_all
    obtain ⟨v, e2, e3⟩ := hR.val j _ e1
    cases e3
    refine ⟨i, e2, hi.1, hi.2, fun _ => ?_⟩
    exact hcl ▸ q W σ H (.same hR (.refl H))
end
theorem zfM {vs : List Expr} {jp : Pos} {es : List Expr} {env : PySem.Env} : starEach (.JoinedStr vs jp :: es) env = (false, eval (.JoinedStr vs jp) env) :: starEach es env := rfl
noncomputable def zk7 (K : PySem.W.Frag) (D : Addr) : Bool := findIn K (.ref D) "__getattribute__" == some (some (.builtin "BaseException.__getattribute__")) && findIn K (.ref D) "__getattr__" == some Option.none && (clsIn K D).isSome && findIn K (.ref D) "__class__" == some (some (.builtin "object.__class__")) && specialIn K (.builtin "object.__class__") "__get__" == some (some (.builtin "getset_descriptor.__get__")) &&
  takesIn K (.builtin "object.__class__") == some true && mroIn K D (.type "object") == some true && mroIn K D (.type "BaseException") == some true
theorem zk8 {K : PySem.W.Frag} {D : Addr} (h : zk7 K D = true) : Asks K D := by
  unfold zk7 at h
  simp only [Bool.and_eq_true, beq_iff_eq] at h
  obtain ⟨⟨⟨⟨⟨⟨⟨a, b⟩, c⟩, d⟩, e⟩, f⟩, g⟩, i⟩ := h
  exact ⟨a, b, c, d, e, f, g, i⟩
noncomputable def apart (K : PySem.W.Frag) (CL : Nat → Addr) (cs : List Nat) : Bool := cs.all fun c => zk7 K (CL c) && cs.all fun d => c == d || kin_not K (CL c) (CL d)
theorem zgq {K : PySem.W.Frag} {CL : Nat → Addr} {cs : List Nat} (h : apart K CL cs = true) {c : Nat} (hc : c ∈ cs) : Asks K (CL c) ∧ ∀ d ∈ cs, c ≠ d → kin_not K (CL c) (CL d) = true := by
  have h1 := List.all_eq_true.mp h c hc
  rw [Bool.and_eq_true] at h1
  refine ⟨zk8 h1.1, fun d hd ne => ?_⟩
  have h2 := List.all_eq_true.mp h1.2 d hd
  rw [Bool.or_eq_true, beq_iff_eq] at h2
  exact h2.resolve_left ne
section
variable {X : Cx} {CL : Nat → Addr} {cs : List Nat} {k : Nat} {n y : Str} {p p1 p2 pos : Pos}
theorem zch (k1 : Nat) (hk : k1 ≠ 0 ∧ k1 ≠ 7) (h1 : k1 ∈ cs) (ap : apart X.K CL cs = true) (hN : X.N[k]? = some n) (hv : Vis X.env.scope n) (hd : (n == ("__debug__" : Str)) = false) (hcd : (n == ("__classdict__" : Str)) = false) (hg : Gl X "isinstance") (hm : X.mg "isinstance" = Option.none)
    (hgy : Gl X y) (hmy : X.mg y = some (.ref (CL k1))) (hdy : (y == ("__debug__" : Str)) = false) :
    ∀ c ∈ cs, ∀ (a : Addr) (o : Obj), o.cls = clV CL c → PE (zd8 X a o) (.Call (.Name "isinstance" p) [.Name n p1, .Name y p2] [] pos) (zoB k a (k1 == c)) := fun c hc a o ho => by
  by_cases e : k1 = c
  · subst e
    rw [show (k1 == k1) = true from beq_self_eq_true k1]
    exact zk2 (cs := cs) k1 hk hN hv hd hcd hg hm hgy hmy hdy k1 hc (by unfold zoz; simp) a o ho
  · rw [show (k1 == c) = false from beq_eq_false_iff_ne.mpr e]
    exact zm4 hN hv hd hcd ho (zgq ap hc).1 ((zgq ap hc).2 k1 h1 (Ne.symm e)) hg hm (zgj hgy hmy hdy) zab zab (zaq zab zak)
end
end L2.LW
namespace L2.LW
open PySem
section
variable {fn : Nat → List D → Option SV} {fa : Nat → List D → Option Ans} {fuel : Nat} {ρ : Env}
@[simp] theorem zqM {i : Int} : evE fn (.int i) ρ = some (.val (.int i)) := rfl
@[simp] theorem zr6 {i : Bool} : evE fn (.bl i) ρ = some (.val (.bl i)) := rfl
@[simp] theorem zqN : evE fn .non ρ = some (.val .non) := rfl
@[simp] theorem zqO {i : Str} : evE fn (.str i) ρ = some (.val (.str i)) := rfl
@[simp] theorem zqP {i : Nat} : evE fn (.var i) ρ = look ρ i := rfl
@[simp] theorem zoC {p : Prim} {es : Es} : evE fn (.prim p es) ρ = (zbp fn es ρ).bind fun rs => zai p (rs.map za0) := rfl
@[simp] theorem zqQ {es : Es} : evE fn (.tup es) ρ = (zbp fn es ρ).bind fun rs => (zfr rs).map fun ds => .val (.tup ds) := rfl
@[simp] theorem zqR {es : Es} : evE fn (.lst es) ρ = (zbp fn es ρ).bind fun rs => (zfr rs).map fun ds => .obj true (.lst ds) := rfl
noncomputable def zqS (r : SV) (k : Option SV) : Option SV := match r with
  | .val (.bl true) => k
  | .val (.bl false) => some (.val (.bl false))
  | _ => none
noncomputable def orV (r : SV) (k : Option SV) : Option SV := match r with
  | .val (.bl true) => some (.val (.bl true))
  | .val (.bl false) => k
  | _ => none
noncomputable def zr7 (r : SV) : Option SV := match r with
  | .val (.bl b) => some (.val (.bl (!b)))
  | _ => none
@[simp] theorem zqT {b : Bool} {k : Option SV} : zqS (.val (.bl b)) k = if b then k else some (.val (.bl false)) := by cases b <;> rfl
@[simp] theorem zr8 {b : Bool} {k : Option SV} : orV (.val (.bl b)) k = if b then some (.val (.bl true)) else k := by cases b <;> rfl
@[simp] theorem zqU {b : Bool} : zr7 (.val (.bl b)) = some (.val (.bl (!b))) := rfl
@[simp] theorem zqV {a b : E} : evE fn (.and a b) ρ = (evE fn a ρ).bind fun r => zqS r (evE fn b ρ) := rfl
@[simp] theorem zr9 {a b : E} : evE fn (.or a b) ρ = (evE fn a ρ).bind fun r => orV r (evE fn b ρ) := rfl
@[simp] theorem zqW {a : E} : evE fn (.not a) ρ = (evE fn a ρ).bind zr7 := rfl
@[simp] theorem zm9 {p q : Prim} {a b c : E} : evE fn (.chain p q a b c) ρ = (evE fn a ρ).bind fun x => (evE fn b ρ).bind fun y => (zai p [za0 x, za0 y]).bind fun z => zqS z ((evE fn c ρ).bind fun w => zai q [za0 y, za0 w]) := rfl
@[simp] theorem zqX {c a b : E} : evE fn (.ite c a b) ρ = (evT fn c ρ).bind fun k => if k then evE fn a ρ else evE fn b ρ := rfl
@[simp] theorem zoD {f : Nat} {es : Es} : evE fn (.call f es) ρ = (zbp fn es ρ).bind fun rs => zce rs (fn f (rs.map za0)) := rfl
@[simp] theorem zoE {t : Bool} : evE fn (.dnew t) ρ = some (.obj true (.dct t [] [])) := rfl
@[simp] theorem zoF {t : Bool} {k v : E} : evE fn (.done t k v) ρ = (evE fn k ρ).bind fun x => (evE fn v ρ).bind fun y => (toD x).bind fun a => (toD y).bind fun b => if zbg t a then some (.obj true (.dct t [a] [b])) else none := rfl
@[simp] theorem zoG : zbp fn .nil ρ = some [] := rfl
@[simp] theorem zna {e : E} {es : Es} : zbp fn (.cons e es) ρ = (evE fn e ρ).bind fun r => (zbp fn es ρ).map (r :: ·) := rfl
@[simp] theorem zqY {a b : E} : evT fn (.and a b) ρ = (evT fn a ρ).bind fun k => if k then evT fn b ρ else some false := rfl
@[simp] theorem zsa {a b : E} : evT fn (.or a b) ρ = (evT fn a ρ).bind fun k => if k then some true else evT fn b ρ := rfl
@[simp] theorem zqZ {a : E} : evT fn (.not a) ρ = (evT fn a ρ).map (!·) := rfl
@[simp] theorem zq0 {i : Int} : evT fn (.int i) ρ = some (i != 0) := rfl
@[simp] theorem zsb {i : Bool} : evT fn (.bl i) ρ = some i := rfl
@[simp] theorem zq1 {i : Nat} : evT fn (.var i) ρ = (look ρ i).bind zaX := rfl
@[simp] theorem zoH {p : Prim} {es : Es} : evT fn (.prim p es) ρ = (zbp fn es ρ).bind fun rs => (zai p (rs.map za0)).bind zaX := rfl
@[simp] theorem zoI {f : Nat} {es : Es} : evT fn (.call f es) ρ = (zbp fn es ρ).bind fun rs => (zce rs (fn f (rs.map za0))).bind zaX := rfl
noncomputable def zsc (r : SV) (k : Option Bool) : Option Bool := match r with
  | .val (.bl true) => k
  | .val (.bl false) => some false
  | _ => none
@[simp] theorem zq2 {b : Bool} {k : Option Bool} : zsc (.val (.bl b)) k = if b then k else some false := by cases b <;> rfl
@[simp] theorem znb {p q : Prim} {a b c : E} : evT fn (.chain p q a b c) ρ = (evE fn a ρ).bind fun x => (evE fn b ρ).bind fun y => (zai p [za0 x, za0 y]).bind fun z => zsc z ((evE fn c ρ).bind fun w => (zai q [za0 y, za0 w]).bind zaX) := rfl
@[simp] theorem zoJ {e : E} : exS fa fuel (.expr e) ρ = (evE (prj fa) e ρ).map fun _ => (.nx, ρ) := rfl
@[simp] theorem zq3 {i : Nat} {e : E} : exS fa fuel (.asg i e) ρ = (evE (prj fa) e ρ).bind fun r => if r.lent || !free ρ i then none else some (.nx, ρ.set i (some r)) := rfl
noncomputable def zgM : Option (Option SV) → Bool
  | some (some (.io _)) => false
  | _ => true
@[simp] theorem zq4 {i : Nat} : free ρ i = zgM ρ[i]? := by
  unfold free zgM
  rcases h : ρ[i]? with _ | _ | (d | ⟨o, d⟩ | d) <;> rfl
@[simp] theorem zlE : zgM none = true := rfl
@[simp] theorem zoK : zgM (some none) = true := rfl
@[simp] theorem znc {d : D} : zgM (some (some (.val d))) = true := rfl
@[simp] theorem znd {o : Bool} {d : D} : zgM (some (some (.obj o d))) = true := rfl
noncomputable def zq5 (ρ : Env) (i j : Nat) : Option (Option SV) → Option (Fl × Env)
  | some (some (.val d)) => some (.nx, ρ.set i (some (.val d)))
  | some (some (.obj _ d)) => some (.nx, (ρ.set j (some (.val d))).set i (some (.val d)))
  | _ => none
@[simp] theorem zoL {i j : Nat} {d : D} : zq5 ρ i j (some (some (.val d))) = some (.nx, ρ.set i (some (.val d))) := rfl
@[simp] theorem zoM {i j : Nat} {o : Bool} {d : D} : zq5 ρ i j (some (some (.obj o d))) = some (.nx, (ρ.set j (some (.val d))).set i (some (.val d))) := rfl
@[simp] theorem zq6 {i j : Nat} : exS fa fuel (.mov i j) ρ = if free ρ i then zq5 ρ i j ρ[j]? else none := by
  rw [zmI]
  rcases h : ρ[j]? with _ | _ | (d | ⟨o, d⟩ | d) <;> rfl
noncomputable def zoN (ρ : Env) (j : Nat) : Option (Option SV) → Option (List D × Env)
  | some (some (.val d)) => (zfC d).map fun l => (l, ρ)
  | some (some (.obj _ (.lst ds))) => some (ds, ρ.set j (some (.val (.lst ds))))
  | _ => none
@[simp] theorem zoO {j : Nat} {d : D} : zoN ρ j (some (some (.val d))) = (zfC d).map fun l => (l, ρ) := rfl
@[simp] theorem zoP {j : Nat} {o : Bool} {ds : List D} : zoN ρ j (some (some (.obj o (.lst ds)))) = some (ds, ρ.set j (some (.val (.lst ds)))) := rfl
@[simp] theorem zne {j : Nat} : zhy ρ j = zoN ρ j ρ[j]? := by
  unfold zhy zoN
  rcases h : ρ[j]? with _ | _ | (d | ⟨o, d⟩ | d) <;> rfl
@[simp] theorem znf {l : List D} : zfC (.tup l) = some l := rfl
@[simp] theorem zng {l : List D} : zfC (.lst l) = some l := rfl
noncomputable def zsQ (ρ : Env) (i : Nat) (x : SV) (r : Option SV) : Option D → Option (Fl × Env)
  | some (.lst ds) => r.bind fun r => (toD r).bind fun d => if ds.length < line then some (.nx, ρ.set i (some (x.put (.lst (ds ++ [d]))))) else none
  | _ => none
noncomputable def zsd (ρ : Env) (i : Nat) (r : Option SV) : Option (Option SV) → Option (Fl × Env)
  | some (some x) => zsQ ρ i x r x.cell
  | _ => none
@[simp] theorem zoQ {i : Nat} {r : Option SV} {ds : List D} : zsd ρ i r (some (some (.obj true (.lst ds)))) = r.bind fun r => (toD r).bind fun d => if ds.length < line then some (.nx, ρ.set i (some (.obj true (.lst (ds ++ [d]))))) else none := rfl
@[simp] theorem zq7 {i : Nat} {e : E} : exS fa fuel (.app i e) ρ = zsd ρ i (evE (prj fa) e ρ) ρ[i]? := by
  rw [zj3]
  rcases h : ρ[i]? with _ | _ | (d | ⟨_ | _, d⟩ | d)
  · rfl
  · rfl
  · rfl
  · rfl
  · cases d <;> rfl
  · cases d <;> rfl
noncomputable def zq8 (ρ : Env) (i : Nat) (x : SV) (rk rv : Option SV) : Option D → Option (Fl × Env)
  | some (.dct t ks vs) => rv.bind fun r => (toD r).bind fun d => rk.bind fun r => (toD r).bind fun a => if zbg t a && decide (ks.length < line) then some (.nx, ρ.set i (some (x.put (zlB t ks vs a d)))) else none
  | _ => none
noncomputable def zk9 (ρ : Env) (i : Nat) (rk rv : Option SV) : Option (Option SV) → Option (Fl × Env)
  | some (some x) => zq8 ρ i x rk rv x.cell
  | _ => none
@[simp] theorem znh {i : Nat} {rk rv : Option SV} {t : Bool} {ks vs : List D} : zk9 ρ i rk rv (some (some (.obj true (.dct t ks vs)))) = rv.bind fun r => (toD r).bind fun d => rk.bind fun r => (toD r).bind fun a => if zbg t a && decide (ks.length < line) then some (.nx, ρ.set i (some (.obj true (zlB t ks vs a d)))) else none := rfl
@[simp] theorem zoR {i : Nat} {rk rv : Option SV} {t : Bool} {ks vs : List D} : zk9 ρ i rk rv (some (some (.io (.dct t ks vs)))) = rv.bind fun r => (toD r).bind fun d => rk.bind fun r => (toD r).bind fun a => if zbg t a && decide (ks.length < line) then some (.nx, ρ.set i (some (.io (zlB t ks vs a d)))) else none := rfl
@[simp] theorem zoS {i : Nat} {k v : E} : exS fa fuel (.dset i k v) ρ = zk9 ρ i (evE (prj fa) k ρ) (evE (prj fa) v ρ) ρ[i]? := by
  rw [zkG]
  rcases h : ρ[i]? with _ | _ | (d | ⟨_ | _, d⟩ | d)
  · rfl
  · rfl
  · rfl
  · rfl
  · cases d <;> rfl
  · cases d <;> rfl
@[simp] theorem zoT {i j k : Nat} {e : E} : exS fa fuel (.unp3 i j k e) ρ = (evE (prj fa) e ρ).bind (zmy ρ i j k) := rfl
@[simp] theorem zoU {i j : Nat} : exS fa fuel (.dupd i j) ρ = zmx ρ i j := rfl
@[simp] theorem zni {m : M} : exS fa fuel (.exprM m) ρ = (evM fa m ρ).map fun x => (.nx, x.2) := rfl
@[simp] theorem zoV {i : Nat} {m : M} : exS fa fuel (.asgM i m) ρ = (evM fa m ρ).bind fun x => if x.1.lent || !free x.2 i then none else some (.nx, x.2.set i (some (.val (za0 x.1)))) := rfl
@[simp] theorem zq9 {c : E} {m : M} {a b : Ss} : exS fa fuel (.ifO c m a b) ρ = (evT (prj fa) c ρ).bind fun k => if k then za4 fa fuel a ρ else (evM fa m ρ).bind fun x => (zaX x.1).bind fun k => if k then za4 fa fuel a x.2 else za4 fa fuel b x.2 := rfl
noncomputable def zkd (ρ : Env) (xs : List AV) : Ans → Option (SV × Env)
  | .ok r outs => if r.fine && outs.all zbr then (zfs ρ xs outs).map fun ρ' => (r, ρ') else none
  | .ex _ => none
@[simp] theorem znj {xs : List AV} {r : SV} {outs : List D} : zkd ρ xs (.ok r outs) = if r.fine && outs.all zbr then (zfs ρ xs outs).map fun ρ' => (r, ρ') else none := rfl
@[simp] theorem zoW {f : Nat} {ma : MA} : evM fa (.call f ma) ρ = (zg2 (prj fa) ma ρ).bind fun xs => (fa f (xs.map zlC)).bind (zkd ρ xs) := rfl
noncomputable def zse (p : Prim) (k : Option (SV × Env)) : SV → Option (SV × Env)
  | .val d => if plain d then k.bind fun y => (zai p [d, za0 y.1]).map fun z => (z, y.2) else none
  | _ => none
@[simp] theorem zoX {p : Prim} {k : Option (SV × Env)} {d : D} : zse p k (.val d) = if plain d then k.bind fun y => (zai p [d, za0 y.1]).map fun z => (z, y.2) else none := rfl
@[simp] theorem zsf {p : Prim} {a : E} {m : M} : evM fa (.op p a m) ρ = (evE (prj fa) a ρ).bind (zse p (evM fa m ρ)) := rfl
@[simp] theorem zoY : zg2 fn .nil ρ = some [] := rfl
@[simp] theorem zsg {c : E} {r : MA} : zg2 fn (.e c r) ρ = (evE fn c ρ).bind fun x => (ziO x).bind fun a => (zg2 fn r ρ).map (a :: ·) := rfl
noncomputable def zjf : Option (Option SV) → Option D
  | some (some x) => x.cell
  | _ => none
@[simp] theorem zlF {i : Nat} : zcV ρ i = zjf ρ[i]? := by
  unfold zcV zjf
  rcases h : ρ[i]? with _ | _ | (d | ⟨_ | _, d⟩ | d) <;> rfl
@[simp] theorem znk {d : D} : zjf (some (some (.obj true d))) = some d := rfl
@[simp] theorem zoZ {d : D} : zjf (some (some (.io d))) = some d := rfl
@[simp] theorem zsh {i : Nat} {r : MA} : zg2 fn (.s i r) ρ = (zcV ρ i).bind fun d => if ziN d then (zg2 fn r ρ).map (.s i d :: ·) else none := rfl
@[simp] theorem zsi {t : Bool} {r : MA} : zg2 fn (.n t r) ρ = (zg2 fn r ρ).map (.n t :: ·) := rfl
@[simp] theorem zo0 : zfs ρ [] [] = some ρ := rfl
@[simp] theorem zsj {i : Nat} {d d' : D} {r : List AV} {ds : List D} : zfs ρ (.s i d :: r) (d' :: ds) = zfs (zow ρ i d') r ds := rfl
@[simp] theorem zsk {t : Bool} {d' : D} {r : List AV} {ds : List D} : zfs ρ (.n t :: r) (d' :: ds) = zfs ρ r ds := rfl
@[simp] theorem zsl {d : D} {r : List AV} {ds : List D} : zfs ρ (.e d :: r) ds = zfs ρ r ds := rfl
@[simp] theorem zsm {d : List D} {r : List AV} {ds : List D} : zfs ρ (.l d :: r) ds = zfs ρ r ds := rfl
noncomputable def zjg (ρ : Env) (i : Nat) (d : D) : Option (Option SV) → Env
  | some (some x) => ρ.set i (some (x.put d))
  | _ => ρ
@[simp] theorem zra {i : Nat} {d : D} : zow ρ i d = zjg ρ i d ρ[i]? := by
  unfold zow zjg
  rcases h : ρ[i]? with _ | _ | (d | ⟨_ | _, d⟩ | d) <;> rfl
@[simp] theorem znl {i : Nat} {d d0 : D} : zjg ρ i d (some (some (.obj true d0))) = ρ.set i (some (.obj true d)) := rfl
@[simp] theorem zo1 {i : Nat} {d d0 : D} : zjg ρ i d (some (some (.io d0))) = ρ.set i (some (.io d)) := rfl
@[simp] theorem zsn {d : D} : zlC (.e d) = d := rfl
@[simp] theorem zso {d : List D} : zlC (.l d) = .lst d := rfl
@[simp] theorem zsp {i : Nat} {d : D} : zlC (.s i d) = d := rfl
@[simp] theorem zsq {t : Bool} : zlC (.n t) = .dct t [] [] := rfl
@[simp] theorem zo2 {l : List D} : ziO (.val (.tup l)) = if plain (.tup l) then some (.e (.tup l)) else none := rfl
@[simp] theorem zo3 {i : Int} : ziO (.val (.int i)) = some (.e (.int i)) := by simp [ziO, plain]
@[simp] theorem zrb {i : Bool} : ziO (.val (.bl i)) = some (.e (.bl i)) := by simp [ziO, plain]
@[simp] theorem zo4 {l : List D} : ziO (.val (.lst l)) = if zaT l then some (.l l) else none := rfl
@[simp] theorem zo5 {o : Bool} {l : List D} : ziO (.obj o (.lst l)) = if zaT l then some (.l l) else none := rfl
@[simp] theorem znm {t : Bool} {ks vs : List D} : ziN (.dct t ks vs) = zaT vs := rfl
@[simp] theorem zlG {t : Bool} {ks vs : List D} : zbr (.dct t ks vs) = zaT vs := rfl
@[simp] theorem zlH {vs : List D} : zbr (.lst vs) = zaT vs := rfl
@[simp] theorem zo6 {d : D} : SV.fine (.val d) = plain d := rfl
@[simp] theorem zo7 {d : D} : SV.fine (.obj true d) = zbr d := rfl
@[simp] theorem zrc {e : E} : exS fa fuel (.ret e) ρ = (evE (prj fa) e ρ).bind fun r => if r.lent then none else some (.rt r, ρ) := rfl
noncomputable def zrd (ρ : Env) (i : Nat) : Option (Option SV) → Option (Fl × Env)
  | some (some (.val d)) => some (.rt (.val d), ρ)
  | some (some (.obj _ d)) => some (.rt (.obj true d), ρ.set i none)
  | _ => none
@[simp] theorem zo8 {i : Nat} {d : D} : zrd ρ i (some (some (.val d))) = some (.rt (.val d), ρ) := rfl
@[simp] theorem zo9 {i : Nat} {o : Bool} {d : D} : zrd ρ i (some (some (.obj o d))) = some (.rt (.obj true d), ρ.set i none) := rfl
@[simp] theorem zpa {i : Nat} : exS fa fuel (.retV i) ρ = zrd ρ i ρ[i]? := by
  rw [zhC]
  rcases h : ρ[i]? with _ | _ | (d | ⟨o, d⟩ | d) <;> rfl
@[simp] theorem zpb : exS fa fuel .retN ρ = some (.rt (.val .non), ρ) := rfl
@[simp] theorem zre {c : E} {a b : Ss} : exS fa fuel (.ifs c a b) ρ = (evT (prj fa) c ρ).bind fun k => if k then za4 fa fuel a ρ else za4 fa fuel b ρ := rfl
noncomputable def zjh (ρ : Env) (j : Nat) : Option (Option SV) → Env
  | some (some (.obj true d)) => ρ.set j (some (.val d))
  | _ => ρ
@[simp] theorem zrf {j : Nat} : zoy ρ j = zjh ρ j ρ[j]? := by
  unfold zoy zjh
  rcases h : ρ[j]? with _ | _ | (d | ⟨_ | _, d⟩ | d) <;> rfl
@[simp] theorem znn {j : Nat} {d : D} : zjh ρ j (some (some (.val d))) = ρ := rfl
@[simp] theorem zno {j : Nat} {d : D} : zjh ρ j (some (some (.obj true d))) = ρ.set j (some (.val d)) := rfl
@[simp] theorem zrg {js : List Nat} {s : S} : exS fa fuel (.frz js s) ρ = exS fa fuel s (js.foldl zoy ρ) := rfl
@[simp] theorem zrh : exS fa fuel .brk ρ = some (.br, ρ) := rfl
@[simp] theorem zri : exS fa fuel .cnt ρ = some (.ct, ρ) := rfl
@[simp] theorem zpc : exS fa fuel .pass ρ = some (.nx, ρ) := rfl
@[simp] theorem zpd : exS fa fuel .stop ρ = none := rfl
@[simp] theorem zpe : za4 fa fuel .nil ρ = some (.nx, ρ) := rfl
noncomputable def andThen (x : Fl × Env) (k : Env → Option (Fl × Env)) : Option (Fl × Env) := match x.1 with
  | .nx => k x.2
  | _ => some x
@[simp] theorem zlI {ρ : Env} {k : Env → Option (Fl × Env)} : andThen (.nx, ρ) k = k ρ := rfl
@[simp] theorem zlJ {ρ : Env} {k : Env → Option (Fl × Env)} : andThen (.br, ρ) k = some (.br, ρ) := rfl
@[simp] theorem zlK {ρ : Env} {k : Env → Option (Fl × Env)} : andThen (.ct, ρ) k = some (.ct, ρ) := rfl
@[simp] theorem zlL {ρ : Env} {r : SV} {k : Env → Option (Fl × Env)} : andThen (.rt r, ρ) k = some (.rt r, ρ) := rfl
@[simp] theorem znp {s : S} {ss : Ss} : za4 fa fuel (.cons s ss) ρ = (exS fa fuel s ρ).bind fun x => andThen x (za4 fa fuel ss) := by
  exact id rfl
noncomputable def zea : Option (Fl × Env) → Option SV
  | some (.rt r, _) => some r
  | some (.nx, _) => some (.val .non)
  | _ => none
@[simp] theorem zpf {r : SV} {ρ : Env} : zea (some (.rt r, ρ)) = some r := rfl
@[simp] theorem zpg {ρ : Env} : zea (some (.nx, ρ)) = some (.val .non) := rfl
@[simp] theorem zlM : zea none = none := rfl
@[simp] theorem znq {c : Prop} [Decidable c] {a b : Option (Fl × Env)} : zea (if c then a else b) = if c then zea a else zea b := by split <;> rfl
end
noncomputable def zgN : Option (Option SV) → Option SV
  | some (some (.val d)) => some (.val d)
  | some (some (.obj _ d)) => some (.obj false d)
  | some (some (.io d)) => some (.obj false d)
  | _ => none
@[simp] theorem zrj {ρ : Env} {i : Nat} : look ρ i = zgN ρ[i]? := by
  unfold look zgN
  rcases h : ρ[i]? with _ | _ | (d | ⟨o, d⟩ | d) <;> rfl
@[simp] theorem znr {d : D} : zgN (some (some (.val d))) = some (.val d) := rfl
@[simp] theorem zns {o : Bool} {d : D} : zgN (some (some (.obj o d))) = some (.obj false d) := rfl
@[simp] theorem zph {d : D} : zgN (some (some (.io d))) = some (.obj false d) := rfl
@[simp] theorem zlN : zgN (some none) = none := rfl
@[simp] theorem zpi {d : D} : za0 (.val d) = d := rfl
@[simp] theorem zpj {o : Bool} {d : D} : za0 (.obj o d) = d := rfl
@[simp] theorem zrk {d : D} : toD (.val d) = some d := rfl
@[simp] theorem zrl {d : D} : toD (.obj true d) = some d := rfl
@[simp] theorem zpk : zfr [] = some [] := rfl
@[simp] theorem znt {r : SV} {rs : List SV} : zfr (r :: rs) = (toD r).bind fun d => (zfr rs).map (d :: ·) := rfl
@[simp] theorem zpl {d : D} : SV.lent (.val d) = false := rfl
@[simp] theorem zpm {d : D} : SV.lent (.obj true d) = false := rfl
@[simp] theorem zpn {d : D} : SV.lent (.obj false d) = true := rfl
@[simp] theorem zpo {i : Int} : zbh i = some (.val (.int i)) := rfl
@[simp] theorem zrm {i : Bool} : zdC i = some (.val (.bl i)) := rfl
@[simp] theorem zpp {b : Bool} : zaX (.val (.bl b)) = some b := rfl
@[simp] theorem znu {i : Int} : zaX (.val (.int i)) = some (i != 0) := rfl
@[simp] theorem znv : zaX (.val .non) = some false := rfl
@[simp] theorem znw {l : List D} : zaX (.val (.tup l)) = some (!l.isEmpty) := rfl
@[simp] theorem znx {l : List D} : zaX (.val (.lst l)) = some (!l.isEmpty) := rfl
@[simp] theorem zny {o : Bool} {l : List D} : zaX (.obj o (.lst l)) = some (!l.isEmpty) := rfl
theorem zif {rs : List SV} {r : Option SV} (h : rs.any SV.lent = false) : zce rs r = r := by
  unfold zce; rw [h]; cases r <;> rfl
theorem zfN {rs : List SV} {x : SV} (h : x.plain = true) : zce rs (some x) = some x := by
  unfold zce; simp [h]
@[simp] theorem zke {rs : List SV} {x : Option SV} (h : rs.any SV.lent = false) : zce rs x = x := zif h
@[simp] theorem zpq {rs : List SV} {x : SV} (h : x.plain = true) : zce rs (some x) = some x := zfN h
@[simp] theorem zlO {d : D} : SV.plain (.val d) = plain d := rfl
@[simp] theorem zlP {o : Bool} {d : D} : SV.plain (.obj o d) = zbr d := rfl
@[simp] theorem znz {i : Int} : plain (.int i) = true := by simp [plain]
@[simp] theorem zpr {i : Bool} : plain (.bl i) = true := by simp [plain]
@[simp] theorem znA : plain .non = true := by simp [plain]
@[simp] theorem znB {i : Str} : plain (.str i) = true := by simp [plain]
@[simp] theorem znC {l : List D} : plain (.tup l) = zaT l := rfl
@[simp] theorem znD {l : List D} : plain (.lst l) = false := rfl
@[simp] theorem znE {t : Bool} {a b : List D} : plain (.dct t a b) = false := rfl
@[simp] theorem zlQ : zaT [] = true := rfl
@[simp] theorem zla {x : D} {xs : List D} : zaT (x :: xs) = (plain x && zaT xs) := rfl
@[simp] theorem znF {P : Nat → Option Fn} {fuel n : Nat} : prj (zah P fuel n) = zbO P fuel n := rfl
theorem zeW : ∀ (k : Nat) (ds : List D), zbH [] k ds = ds.map fun d => some (.val d)
  | _, [] => rfl
  | k, d :: r => by simp [zbH, zeW (k + 1) r]
theorem zlb (x : Option (Fl × Env)) : (match zmz [] x with | some (.ok r []) => some r | _ => none) = zea x := by
  rcases x with _ | ⟨_ | _ | _ | r, ρ⟩ <;> rfl
theorem zgO {P : Nat → Option Fn} {fuel n i : Nat} {F : Fn} {ds : List D} (h : P i = some F) (hl : ds.length = F.np) (hio : F.io = []) (hx : F.xb = none := by rfl) :
    zbO P fuel (n + 1) i ds = zea (za4 (zah P fuel n) fuel F.body (ds.map (fun d => some (.val d)) ++ List.replicate (F.nl - F.np) none)) := by
  unfold zbO prj
  rw [zah, h]
  simp only [Option.bind_some, if_pos hl, hio, zeW, hx]
  exact zlb _
@[simp] theorem zsR {a b : Int} : zai .add [.int a, .int b] = some (.val (.int (a + b))) := rfl
@[simp] theorem zsS {a b : Int} : zai .sub [.int a, .int b] = some (.val (.int (a - b))) := rfl
theorem zrn {a b : Int} (h : 0 < b) : zai .mod [.int a, .int b] = some (.val (.int (a % b))) := by simp only [zai, zos, if_pos h, zbh]
@[simp] theorem zsT {a : Int} : zai .neg [.int a] = some (.val (.int (-a))) := rfl
theorem zsU {a b : D} (h : za2 8 a = true) (h' : za2 8 b = true) : zai .eq [a, b] = some (.val (.bl (eqD a b))) := by simp [zai, pEq, h, h']
theorem zsV {a b : D} (h : za2 8 a = true) (h' : za2 8 b = true) : zai .ne [a, b] = some (.val (.bl (!eqD a b))) := by simp [zai, pNe, h, h']
@[simp] theorem zsW {a b : Int} : zai .eq [.int a, .int b] = some (.val (.bl (a == b))) := by rw [zsU rfl rfl, eqD]
@[simp] theorem zsX {a b : Int} : zai .ne [.int a, .int b] = some (.val (.bl (a != b))) := by rw [zsV rfl rfl, eqD]; rfl
@[simp] theorem zs7 {a b : Int} : zai .lt [.int a, .int b] = some (.val (.bl (decide (a < b)))) := rfl
@[simp] theorem zs8 {a b : Int} : zai .le [.int a, .int b] = some (.val (.bl (decide (a ≤ b)))) := rfl
@[simp] theorem zs9 {a b : Int} : zai .gt [.int a, .int b] = some (.val (.bl (decide (b < a)))) := rfl
@[simp] theorem zta {a b : Int} : zai .ge [.int a, .int b] = some (.val (.bl (decide (b ≤ a)))) := rfl
@[simp] theorem zsY {d : D} : zai .isN [d] = some (.val (.bl (zeF d))) := rfl
@[simp] theorem zsr {d : D} : zai .notN [d] = some (.val (.bl (!zeF d))) := rfl
@[simp] theorem zss {l : List D} : zai .len [.tup l] = some (.val (.int l.length)) := rfl
@[simp] theorem zst {l : List D} : zai .len [.lst l] = some (.val (.int l.length)) := rfl
@[simp] theorem zsZ {i : Int} : zai .abs [.int i] = some (.val (.int (if i < 0 then -i else i))) := rfl
@[simp] theorem zsu {i j : Int} : zai .min2 [.int i, .int j] = some (.val (.int (if j < i then j else i))) := rfl
@[simp] theorem zsv {i j : Int} : zai .max2 [.int i, .int j] = some (.val (.int (if j > i then j else i))) := rfl
@[simp] theorem zps {b : Bool} : zai .intOf [.bl b] = some (.val (.int (if b then 1 else 0))) := rfl
@[simp] theorem zpt {b : Int} : zai .intOf [.int b] = some (.val (.int b)) := rfl
@[simp] theorem znG {l : List D} : zai .toList [.tup l] = some (.obj true (.lst l)) := rfl
@[simp] theorem znH {l : List D} : zai .toList [.lst l] = some (.obj true (.lst l)) := rfl
@[simp] theorem zpu {l : List D} : zai .toTup [.tup l] = some (.val (.tup l)) := rfl
@[simp] theorem zpv {l : List D} : zai .toTup [.lst l] = some (.val (.tup l)) := rfl
@[simp] theorem zsw {t : Ty} {d : D} : zai (.inst t) [d] = some (.val (.bl (zcT t d))) := rfl
theorem znI {l : List D} {i : Int} : zai .idx [.lst l, .int i] = (atI l i).map .val := rfl
theorem atI_nat {α : Type} {l : List α} {k : Nat} (h : k < l.length) : atI l (k : Int) = some l[k] := by
  unfold atI ixN
  rw [if_pos (by omega), if_pos (by omega)]
  simp [h]
@[simp] theorem zpw {a b : D} : zai .idx [.tup [a, b], .int 0] = some (.val a) := rfl
@[simp] theorem zpx {a b : D} : zai .idx [.tup [a, b], .int 1] = some (.val b) := rfl
@[simp] theorem zpy {b : Bool} : zcT .bool (.bl b) = true := rfl
@[simp] theorem zpz {b : Int} : zcT .bool (.int b) = false := rfl
@[simp] theorem zpA {b : Int} : zcT .int (.int b) = true := rfl
@[simp] theorem zpB {l : List D} : zcT .tuple (.tup l) = true := rfl
@[simp] theorem zpC {l : List D} : zcT .list (.lst l) = true := rfl
@[simp] theorem znJ : zeF .non = true := rfl
@[simp] theorem znK {i : Int} : zeF (.int i) = false := rfl
@[simp] theorem znL {l : List D} : zeF (.tup l) = false := rfl
@[simp] theorem znM {l : List D} : zeF (.lst l) = false := rfl
section
variable {fa : Nat → List D → Option Ans} {fuel : Nat} {ρ : Env}
noncomputable def zji (k : Env → Option (FlX × Env)) : FlX × Env → Option (FlX × Env)
  | (.fl .nx, ρ) => k ρ
  | x => some x
@[simp] theorem zpD {k : Env → Option (FlX × Env)} : zji k (.fl .nx, ρ) = k ρ := rfl
@[simp] theorem zpE {k : Env → Option (FlX × Env)} {r : SV} : zji k (.fl (.rt r), ρ) = some (.fl (.rt r), ρ) := rfl
@[simp] theorem zpF {k : Env → Option (FlX × Env)} {c : Nat} : zji k (.ex c, ρ) = some (.ex c, ρ) := rfl
@[simp] theorem zpG : za9 fa fuel .nil ρ = some (.fl .nx, ρ) := by rw [za9]
@[simp] theorem znN {t : T} {ts : Ts} : za9 fa fuel (.cons t ts) ρ = (exT fa fuel t ρ).bind (zji (za9 fa fuel ts)) := by
  rw [za9]
  congr 1
  funext x
  rcases x with ⟨⟨_ | _ | _ | _⟩ | _, _⟩ <;> rfl
@[simp] theorem zsx {s : S} : exT fa fuel (.pl s) ρ = (exS fa fuel s ρ).map fun x => (.fl x.1, x.2) := by rw [exT]
@[simp] theorem znO {c : Nat} : exT fa fuel (.raise c) ρ = some (.ex c, ρ) := by rw [exT]
@[simp] theorem znP : exT fa fuel .stuck ρ = none := by rw [exT]
@[simp] theorem zro {c : E} {a b : Ts} : exT fa fuel (.ifs c a b) ρ = (evT (prj fa) c ρ).bind fun k => if k then za9 fa fuel a ρ else za9 fa fuel b ρ := by rw [exT]
noncomputable def zig (ρ : Env) : Ans → Option (FlX × Env)
  | .ok _ [] => some (.fl .nx, ρ)
  | .ex c => some (.ex c, ρ)
  | _ => none
@[simp] theorem znQ {r : SV} : zig ρ (.ok r []) = some (.fl .nx, ρ) := rfl
@[simp] theorem znR {c : Nat} : zig ρ (.ex c) = some (.ex c, ρ) := rfl
@[simp] theorem znS {i : Nat} {es : Es} : exT fa fuel (.callX i es) ρ = (zhz fa i es ρ).bind (zig ρ) := by rw [exT]; rfl
noncomputable def zlc (ρ : Env) : Ans → Option (FlX × Env)
  | .ok r [] => if r.lent then none else some (.fl (.rt r), ρ)
  | .ex c => some (.ex c, ρ)
  | _ => none
@[simp] theorem zpH {r : SV} : zlc ρ (.ok r []) = if r.lent then none else some (.fl (.rt r), ρ) := rfl
@[simp] theorem zpI {c : Nat} : zlc ρ (.ex c) = some (.ex c, ρ) := rfl
@[simp] theorem zpJ {i : Nat} {es : Es} : exT fa fuel (.retX i es) ρ = (zhz fa i es ρ).bind (zlc ρ) := by rw [exT]; rfl
noncomputable def znT (k : Nat) (ρ : Env) : Ans → Option (FlX × Env)
  | .ok r [] => if r.lent || !free ρ k then none else some (.fl .nx, ρ.set k (some r))
  | .ex c => some (.ex c, ρ)
  | _ => none
@[simp] theorem zpK {k c : Nat} : znT k ρ (.ex c) = some (.ex c, ρ) := rfl
@[simp] theorem zpL {k i : Nat} {es : Es} : exT fa fuel (.asgX k i es) ρ = (zhz fa i es ρ).bind (znT k ρ) := by rw [exT]; rfl
noncomputable def zsy (neg : Bool) (a b : Option (FlX × Env)) (ρ : Env) : Ans → Option (FlX × Env)
  | .ok (.val (.bl k)) [] => if k != neg then a else b
  | .ex c => some (.ex c, ρ)
  | _ => none
@[simp] theorem zrp {neg : Bool} {a b : Option (FlX × Env)} {c : Nat} : zsy neg a b ρ (.ex c) = some (.ex c, ρ) := rfl
@[simp] theorem zrq {neg : Bool} {i : Nat} {es : Es} {a b : Ts} : exT fa fuel (.ifX neg i es a b) ρ = (zhz fa i es ρ).bind (zsy neg (za9 fa fuel a ρ) (za9 fa fuel b ρ) ρ) := by rw [exT]; rfl
noncomputable def zld (cs : List Nat) (h : Hd) : FlX × Env → Option (FlX × Env)
  | (.ex c, ρ) => if cs.contains c then hdX c ρ h else none
  | x => some x
@[simp] theorem zpM {cs : List Nat} {h : Hd} {f : Fl} : zld cs h (.fl f, ρ) = some (.fl f, ρ) := rfl
@[simp] theorem zpN {cs : List Nat} {h : Hd} {c : Nat} : zld cs h (.ex c, ρ) = if cs.contains c then hdX c ρ h else none := rfl
@[simp] theorem zpO {b : Ts} {k : Nat} {cs : List Nat} {h : Hd} : exT fa fuel (.tryX b k cs h) ρ = (za9 fa fuel b ρ).bind (zld cs h) := by
  rw [exT]
  congr 1
  funext x
  rcases x with ⟨_ | _, _⟩ <;> rfl
@[simp] theorem zrr {i : Nat} {es : Es} : zhz fa i es ρ = (zbp (prj fa) es ρ).bind fun rs => if rs.any SV.lent then none else fa i (rs.map za0) := rfl
@[simp] theorem zrs {r : SV} : zj1 (some (.fl (.rt r), ρ)) = some (.ok r []) := rfl
@[simp] theorem zrt : zj1 (some (.fl .nx, ρ)) = some (.ok (.val .non) []) := rfl
@[simp] theorem zru {c : Nat} : zj1 (some (.ex c, ρ)) = some (.ex c) := rfl
end
end L2.LW
namespace LK
open L2.LW
noncomputable def ir0 : Ss := (.cons (.ifs (.or (.prim (.inst .bool) (.cons (.var 0) .nil)) (.not (.prim (.inst .int) (.cons (.var 0) .nil)))) (.cons (.ret (.bl false))
    .nil) .nil)
    (.cons (.ret (.chain .le .le (.var 1) (.var 0) (.var 2)))
    .nil))
noncomputable def ir1 : Ss := (.cons (.ret (.and (.prim (.inst .tuple) (.cons (.var 0) .nil)) (.prim .eq (.cons (.prim .len (.cons (.var 0) .nil)) (.cons (.int 2) .nil)))))
    .nil)
noncomputable def ir2 : Ss := (.cons (.ret (.and (.call 1 (.cons (.var 0) .nil)) (.and (.call 0 (.cons (.prim .idx (.cons (.var 0) (.cons (.int 0) .nil))) (.cons (.int 0) (.cons (.int 7) .nil)))) (.call 0 (.cons (.prim .idx (.cons (.var 0) (.cons (.int 1) .nil))) (.cons (.int 0) (.cons (.int 7) .nil)))))))
    .nil)
noncomputable def ir3 : Ss := (.cons (.ret (.and (.call 1 (.cons (.var 0) .nil)) (.and (.call 0 (.cons (.prim .idx (.cons (.var 0) (.cons (.int 1) .nil))) (.cons (.int 1) (.cons (.int 4) .nil)))) (.call 0 (.cons (.prim .idx (.cons (.var 0) (.cons (.int 0) .nil))) (.cons (.int 0) (.cons (.prim .idx (.cons (.var 0) (.cons (.int 1) .nil))) .nil)))))))
    .nil)
noncomputable def ir4 : Ss := (.cons (.ret (.prim .all (.cons (.comp true (.cons (.int 1) (.cons (.prim .len (.cons (.var 0) .nil)) .nil)) (.bl true) (.prim .lt (.cons (.prim .idx (.cons (.var 1) (.cons (.prim .sub (.cons (.var 0) (.cons (.int 1) .nil))) .nil))) (.cons (.prim .idx (.cons (.var 1) (.cons (.var 0) .nil))) .nil)))) .nil)))
    .nil)
noncomputable def ir5 : Ss := (.cons (.ifs (.or (.not (.prim (.inst .tuple) (.cons (.var 0) .nil))) (.not (.chain .le .le (.int 1) (.prim .len (.cons (.var 0) .nil)) (.int 24)))) (.cons (.ret (.bl false))
    .nil) .nil)
    (.cons (.ret (.and (.prim .all (.cons (.comp false (.cons (.var 0) .nil) (.bl true) (.call 2 (.cons (.var 0) .nil))) .nil)) (.call 4 (.cons (.var 0) .nil))))
    .nil))
noncomputable def ir6 : Ss := (.cons (.ifs (.not (.call 5 (.cons (.var 0) .nil))) (.cons .stop
    .nil) .nil)
    (.cons (.retV 0)
    .nil))
noncomputable def znU : Ss := (.cons (.ifs (.prim .lt (.cons (.var 1) (.cons (.prim .len (.cons (.var 0) .nil)) .nil))) (.cons (.ret (.prim .idx (.cons (.var 0) (.cons (.var 1) .nil))))
    .nil) .nil)
    (.cons (.ret (.int 0))
    .nil))
noncomputable def zrv : Ss := (.cons (.ret (.prim .addS (.cons (.prim .join0 (.cons (.comp true (.cons (.var 2) .nil) (.bl true) (.ite (.prim .inn (.cons (.tup (.cons (.var 2) (.cons (.var 0) .nil))) (.cons (.var 1) .nil))) (.str "#") (.str "."))) .nil)) (.cons (.str "\n") .nil))))
    .nil)
noncomputable def zrw : Ss := (.cons (.expr (.call 6 (.cons (.var 0) .nil)))
    (.cons (.asg 1 (.prim .add (.cons (.prim .maxL (.cons (.comp false (.cons (.var 0) .nil) (.bl true) (.prim .idx (.cons (.var 0) (.cons (.int 1) .nil)))) .nil)) (.cons (.int 1) .nil))))
    (.cons (.ret (.prim .join0 (.cons (.comp true (.cons (.prim .add (.cons (.prim .idx (.cons (.prim .idx (.cons (.var 0) (.cons (.prim .neg (.cons (.int 1) .nil)) .nil))) (.cons (.int 0) .nil))) (.cons (.int 1) .nil))) .nil) (.bl true) (.call 86 (.cons (.var 1) (.cons (.var 0) (.cons (.var 2) .nil))))) .nil)))
    .nil)))
noncomputable def znV : Ss := (.cons (.ifs (.prim .eqS (.cons (.var 5) (.cons (.str "#") .nil))) (.cons (.app 1 (.tup (.cons (.var 2) (.cons (.var 4) .nil))))
    .nil) .nil)
    .nil)
noncomputable def znW : Ss := (.cons (.forE 4 5 (.var 3) znV)
    .nil)
noncomputable def zrx : Ss := (.cons (.asg 1 (.lst .nil))
    (.cons (.forE 2 3 (.prim .splitN (.cons (.var 0) .nil)) znW)
    (.cons (.ret (.prim .toTup (.cons (.var 1) .nil)))
    .nil)))
noncomputable def zih : Ss := (.cons (.asg 1 (.prim .mod (.cons (.call 13 (.cons (.var 0) (.cons (.int 0) .nil))) (.cons (.int 6) .nil))))
    (.cons (.ret (.prim .eq (.cons (.call 139 (.cons (.var 1) .nil)) (.cons (.comp true (.cons (.int 6) .nil) (.bl true) (.prim .eq (.cons (.var 0) (.cons (.var 2) .nil)))) .nil))))
    .nil))
noncomputable def zjj : Ts := (.cons (.callX 112 (.cons (.var 0) .nil))
    (.cons (.callX 113 (.cons (.var 1) .nil))
    (.cons (.callX 113 (.cons (.var 2) .nil))
    (.cons .stuck .nil))))
noncomputable def zjk : Ts := (.cons (.ifs (.not (.call 3 (.cons (.var 0) .nil))) (.cons (.raise 2)
    .nil) .nil)
    (.cons (.pl (.retV 0))
    .nil))
noncomputable def zjl : Ts := (.cons (.ifs (.not (.call 0 (.cons (.var 0) (.cons (.prim .neg (.cons (.int 12) .nil)) (.cons (.int 12) .nil))))) (.cons (.raise 4)
    .nil) .nil)
    .nil)
noncomputable def zjm : Ts := (.cons (.callX 118 (.cons (.var 0) .nil))
    (.cons (.callX 112 (.cons (.var 1) .nil))
    (.cons (.callX 119 (.cons (.var 0) (.cons (.int 9) .nil)))
    (.cons (.ifs (.not (.call 0 (.cons (.var 2) (.cons (.int 0) (.cons (.int 1) .nil))))) (.cons (.raise 4)
    .nil) .nil)
    (.cons .stuck .nil)))))
noncomputable def zjn : Ts := (.cons (.ifs (.not (.call 5 (.cons (.var 0) .nil))) (.cons (.raise 1)
    .nil) .nil)
    (.cons (.pl (.retV 0))
    .nil))
noncomputable def zjo : Ts := (.cons (.ifs (.prim .gt (.cons (.prim .len (.cons (.var 0) .nil)) (.cons (.var 1) .nil))) (.cons (.raiseF 5 1)
    .nil) .nil)
    .nil)
noncomputable def zjp : Ts := (.cons (.callX 118 (.cons (.var 0) .nil))
    (.cons (.callX 112 (.cons (.var 1) .nil))
    (.cons (.callX 133 (.cons (.var 0) (.cons (.var 2) .nil)))
    (.cons .stuck .nil))))
noncomputable def zjq : Ts := (.cons (.ifs (.or (.not (.call 2 (.cons (.var 1) .nil))) (.prim .nin (.cons (.var 1) (.cons (.var 0) .nil)))) (.cons (.raise 3)
    .nil) .nil)
    (.cons (.pl (.retV 1))
    .nil))
noncomputable def zjr : Ts := (.cons (.pl (.asg 1 (.lst .nil)))
    (.cons (.tryX (.cons (.callX 140 (.cons (.var 0) .nil))
    .nil) 2 [1, 2, 3, 4, 5, 6] (.two 1 3 [1, 2, 3, 4] [5, 6]))
    (.cons (.pl (.retV 1))
    .nil)))
noncomputable def zjs : Ts := (.cons (.ifs (.prim .eq (.cons (.var 0) (.cons (.int 0) .nil))) (.cons (.retX 118 (.cons (.tup .nil) .nil))
    .nil) .nil)
    (.cons (.ifs (.prim .eq (.cons (.var 0) (.cons (.int 1) .nil))) (.cons (.retX 112 (.cons (.tup (.cons (.int 2) (.cons (.int 1) .nil))) .nil))
    .nil) .nil)
    (.cons (.ifs (.prim .eq (.cons (.var 0) (.cons (.int 2) .nil))) (.cons (.retX 123 (.cons (.tup (.cons (.tup (.cons (.int 0) (.cons (.int 0) .nil))) .nil)) (.cons (.tup (.cons (.int 0) (.cons (.int 1) .nil))) (.cons (.tup (.cons (.int 0) (.cons (.int 1) .nil))) .nil))))
    .nil) .nil)
    (.cons (.ifs (.prim .eq (.cons (.var 0) (.cons (.int 3) .nil))) (.cons (.retX 110 (.cons (.tup (.cons (.int 1) (.cons (.int 2) .nil))) (.cons (.int 13) (.cons (.int 0) .nil))))
    .nil) .nil)
    (.cons (.ifs (.prim .eq (.cons (.var 0) (.cons (.int 4) .nil))) (.cons (.retX 117 (.cons (.prim .toTup (.cons (.prim .add (.cons (.comp true (.cons (.int 8) .nil) (.bl true) (.tup (.cons (.int 0) (.cons (.var 0) .nil)))) (.cons (.comp true (.cons (.int 8) .nil) (.bl true) (.tup (.cons (.int 1) (.cons (.var 0) .nil)))) .nil))) .nil)) (.cons (.tup (.cons (.int 0) (.cons (.int 1) .nil))) (.cons (.int 0) .nil))))
    .nil) .nil)
    (.cons (.retX 141 (.cons (.str "") .nil))
    .nil))))))
noncomputable def zjt : Ts := (.cons (.ifs (.not (.prim (.inst .str) (.cons (.var 0) .nil))) (.cons (.raise 6)
    .nil) .nil)
    (.cons (.pl (.asg 1 (.call 98 (.cons (.var 0) .nil))))
    (.cons (.ifs (.or (.not (.call 5 (.cons (.var 1) .nil))) (.prim .neS (.cons (.call 87 (.cons (.var 1) .nil)) (.cons (.var 0) .nil)))) (.cons (.raise 6)
    .nil) .nil)
    (.cons (.pl (.retV 1))
    .nil))))
noncomputable def U : Nat → Option Fn
  | 0 => some ⟨3, 3, ir0, [], none⟩
  | 1 => some ⟨1, 1, ir1, [], none⟩
  | 2 => some ⟨1, 1, ir2, [], none⟩
  | 3 => some ⟨1, 1, ir3, [], none⟩
  | 4 => some ⟨1, 1, ir4, [], none⟩
  | 5 => some ⟨1, 1, ir5, [], none⟩
  | 6 => some ⟨1, 1, ir6, [], none⟩
  | 13 => some ⟨2, 2, znU, [], none⟩
  | 86 => some ⟨3, 3, zrv, [], none⟩
  | 87 => some ⟨1, 2, zrw, [], none⟩
  | 98 => some ⟨1, 6, zrx, [], none⟩
  | 102 => some ⟨1, 2, zih, [], none⟩
  | 110 => some ⟨3, 4, .nil, [], some zjj⟩
  | 112 => some ⟨1, 1, .nil, [], some zjk⟩
  | 113 => some ⟨1, 1, .nil, [], some zjl⟩
  | 117 => some ⟨3, 5, .nil, [], some zjm⟩
  | 118 => some ⟨1, 1, .nil, [], some zjn⟩
  | 119 => some ⟨2, 2, .nil, [], some zjo⟩
  | 123 => some ⟨3, 3, .nil, [], some zjp⟩
  | 133 => some ⟨2, 2, .nil, [], some zjq⟩
  | 139 => some ⟨1, 3, .nil, [], some zjr⟩
  | 140 => some ⟨1, 1, .nil, [], some zjs⟩
  | 141 => some ⟨1, 2, .nil, [], some zjt⟩
  | _ => none
theorem U13 : U 13 = some ⟨2, 2, znU, [], none⟩ := rfl
theorem zs0 : U 102 = some ⟨1, 2, zih, [], none⟩ := rfl
end LK
namespace LK
open L2.LW
noncomputable def zb5 : Nat := 100000
noncomputable abbrev call (n i : Nat) (ds : List D) : Option SV := zbO U zb5 n i ds
theorem zeX {n i : Nat} {F : Fn} {ds : List D} (h : U i = some F) (hl : ds.length = F.np) (hio : F.io = [] := by rfl) (hx : F.xb = none := by rfl) :
    zbO U zb5 (n + 1) i ds = zea (za4 (zah U zb5 n) zb5 F.body (ds.map (fun d => some (.val d)) ++ List.replicate (F.nl - F.np) none)) := zgO h hl hio hx
noncomputable abbrev zc4 := Int × Int
noncomputable def cD (c : zc4) : D := .tup [.int c.1, .int c.2]
noncomputable def fD (f : List zc4) : D := .tup (f.map cD)
@[simp] theorem zpP {c : zc4} : plain (cD c) = true := by simp [cD]
@[simp] theorem zeY : ∀ {l : List zc4}, zaT (l.map cD) = true
  | [] => by simp
  | c :: r => by simp [zeY (l := r)]
@[simp] theorem zpQ {f : List zc4} : plain (fD f) = true := by simp [fD]
@[simp] theorem zle {c : zc4} {n : Nat} : za2 (n + 1) (cD c) = true := by simp [cD, za2]
@[simp] theorem zlR {n : Nat} {l : List zc4} : (l.map cD).all (za2 (n + 1)) = true := by
  rw [List.all_map, List.all_eq_true]; intro x _; exact zle
@[simp] theorem zsz {a b : zc4} : eqD (cD a) (cD b) = decide (a = b) := by
  rw [Bool.eq_iff_iff]
  obtain ⟨a1, a2⟩ := a; obtain ⟨b1, b2⟩ := b
  simp [cD, eqD, zdW]
@[simp] theorem zgP : ∀ {a b : List zc4}, zdW (a.map cD) (b.map cD) = decide (a = b)
  | [], [] => by simp [zdW]
  | [], _ :: _ => by simp [zdW]
  | _ :: _, [] => by simp [zdW]
  | x :: xs, y :: ys => by
    rw [Bool.eq_iff_iff]
    simp [zdW, zgP (a := xs) (b := ys)]
@[simp] theorem znX {c : zc4} {l : List zc4} : ((l.map cD).any fun y => eqD y (cD c)) = decide (c ∈ l) := by
  rw [Bool.eq_iff_iff]
  simp [List.any_map, List.any_eq_true]
noncomputable def cLt (a b : zc4) : Prop := a.1 < b.1 ∨ (a.1 = b.1 ∧ a.2 < b.2)
noncomputable instance (a b : zc4) : Decidable (cLt a b) := by unfold cLt; exact inferInstance
@[simp] theorem zs1 {a b : zc4} : zai .lt [cD a, cD b] = some (.val (.bl (decide (cLt a b)))) := by
  simp only [cD, zai, pLt, ints?, Option.map_some, Option.bind_some, zdC, lexLt]
  congr 3
  rw [Bool.eq_iff_iff]
  simp only [cLt]
  by_cases h : a.1 = b.1
  · simp [h]
    by_cases h2 : a.2 = b.2
    · simp [h2]
    · simp [h2]
  · simp [h]
@[simp] theorem znY {l : List D} : zaJ false [.val (.tup l)] = some l := id rfl
@[simp] theorem znZ {l : List D} : zaJ false [.val (.lst l)] = some l := id rfl
@[simp] theorem zn0 {o : Bool} {l : List D} : zaJ false [.obj o (.lst l)] = some l := id rfl
@[simp] theorem zpR {f : List zc4} : zcT .tuple (fD f) = true := id rfl
@[simp] theorem zpS {c : zc4} : zcT .tuple (cD c) = true := id rfl
@[simp] theorem ztb {c : zc4} : zai .idx [cD c, .int 0] = some (.val (.int c.1)) := id rfl
@[simp] theorem ztc {c : zc4} : zai .idx [cD c, .int 1] = some (.val (.int c.2)) := id rfl
end LK
namespace LK
open L2.LW
noncomputable def sm (a : Int) : Prop := -(2 ^ 64) < a ∧ a < 2 ^ 64
noncomputable def sD (ns : List Int) : D := .lst (ns.map D.int)
noncomputable def zby (ns : List Int) (k : Int) : Int := ns.getD k.toNat 0
theorem zfO (n : Nat) (ns : List Int) {k : Int} (h : 0 ≤ k) : zbO U zb5 (n + 1) 13 [sD ns, .int k] = some (.val (.int (zby ns k))) := by
  rw [zeX U13 rfl]
  obtain ⟨j, rfl⟩ := Int.eq_ofNat_of_zero_le h
  simp only [znU]
  by_cases hj : j < ns.length
  · have hj' : (j : Int) < (ns.length : Int) := by omega
    simp [sD, hj']
    rw [znI, atI_nat (by simpa using hj)]
    simp [zby, hj]
  · have hj' : ¬ (j : Int) < (ns.length : Int) := by omega
    simp [sD, hj']
    simp [zby, List.getElem?_eq_none (by omega : ns.length ≤ j)]
structure Built (down right wide : Int) (r k : Int) (fs : List zc4) : Prop where
  rise : fs.Pairwise cLt
  at_ : ∀ x ∈ fs, down ≤ x.1 ∧ right ≤ x.2 ∧ x.2 < right + wide ∧ (x.1 < down + r ∨ (x.1 = down + r ∧ x.2 < right + k))
theorem Built.next {down right wide r k : Int} {fs : List zc4} (b : Built down right wide r k fs) (hk : 0 ≤ k) (hw : k < wide) (hr : 0 ≤ r) : Built down right wide r (k + 1) (fs ++ [(down + r, right + k)]) := by
  refine ⟨?_, fun x hx => ?_⟩
  · rw [List.pairwise_append]
    refine ⟨b.rise, by simp, fun x hx y hy => ?_⟩
    simp only [List.mem_singleton] at hy
    subst hy
    have := b.at_ x hx
    unfold cLt; simp only; omega
  · rw [List.mem_append, List.mem_singleton] at hx
    rcases hx with hx | rfl
    · have := b.at_ x hx; omega
    · show down ≤ down + r ∧ right ≤ right + k ∧ right + k < right + wide ∧ (down + r < down + r ∨ (down + r = down + r ∧ right + k < right + (k + 1)))
      omega
theorem Built.skip {down right wide r k : Int} {fs : List zc4} (b : Built down right wide r k fs) : Built down right wide r (k + 1) fs :=
  ⟨b.rise, fun x hx => by have := b.at_ x hx; omega⟩
theorem Built.row {down right wide r : Int} {fs : List zc4} (b : Built down right wide r wide fs) : Built down right wide (r + 1) 0 fs :=
  ⟨b.rise, fun x hx => by have := b.at_ x hx; omega⟩
@[simp] theorem zlS {fs : List zc4} {a b : Int} : fs.map cD ++ [.tup [.int a, .int b]] = (fs ++ [(a, b)]).map cD := by simp [cD]
end LK
namespace LK
open L2.LW
noncomputable def depth : Nat := 40
end LK
namespace LK
open L2.LW
theorem zn1 : zbO U zb5 39 139 [.int 0] = some (.obj true (.lst [.bl true, .bl false, .bl false, .bl false, .bl false, .bl false])) := by kernel_rfl
theorem zn2 : zbO U zb5 39 139 [.int 1] = some (.obj true (.lst [.bl false, .bl true, .bl false, .bl false, .bl false, .bl false])) := by kernel_rfl
theorem zn3 : zbO U zb5 39 139 [.int 2] = some (.obj true (.lst [.bl false, .bl false, .bl true, .bl false, .bl false, .bl false])) := by kernel_rfl
theorem zn4 : zbO U zb5 39 139 [.int 3] = some (.obj true (.lst [.bl false, .bl false, .bl false, .bl true, .bl false, .bl false])) := by kernel_rfl
theorem zn5 : zbO U zb5 39 139 [.int 4] = some (.obj true (.lst [.bl false, .bl false, .bl false, .bl false, .bl true, .bl false])) := by kernel_rfl
theorem zn6 : zbO U zb5 39 139 [.int 5] = some (.obj true (.lst [.bl false, .bl false, .bl false, .bl false, .bl false, .bl true])) := by kernel_rfl
theorem zlf (ns : List Int) : zbO U zb5 40 102 [sD ns] = some (.val (.bl true)) := by
  have c0 := zfO 38 ns (k := 0) (by decide)
  have hm : zby ns 0 % 6 = 0 ∨ zby ns 0 % 6 = 1 ∨ zby ns 0 % 6 = 2 ∨ zby ns 0 % 6 = 3 ∨ zby ns 0 % 6 = 4 ∨ zby ns 0 % 6 = 5 := by omega
  rw [zeX zs0 rfl]
  simp only [zih]
  simp [c0, zrn (a := zby ns 0) (b := 6) (by decide)]
  generalize zby ns 0 % 6 = w at *
  generalize sD ns = x at *
  rcases hm with rfl | rfl | rfl | rfl | rfl | rfl
  · simp only [zn1]
    kernel_rfl
  · simp only [zn2]
    kernel_rfl
  · simp only [zn3]
    kernel_rfl
  · simp only [zn4]
    kernel_rfl
  · simp only [zn5]
    kernel_rfl
  · simp only [zn6]
    kernel_rfl
theorem zeZ (ns : List Int) (_ : ns.length ≤ 63) : zbO U zb5 depth 102 [.lst (ns.map D.int)] = some (.val (.bl true)) := zlf ns
end LK
set_option maxHeartbeats 4000000
namespace LK
open PySem PySem.Spec PyProof.Rows L2 L2.LW
noncomputable def top (i : Nat) : Stmt := PySem.Challenge.pw_leaperwalk_k21_refusals_stand_apart.main.body.getD i (.Pass ⟨0, 0, 0, 0⟩)
noncomputable def zaw : Nat → List Str
  | 0 => ["thing", "least", "most"]
  | 1 => ["thing"]
  | 2 => ["thing"]
  | 3 => ["thing"]
  | 4 => ["cells"]
  | 5 => ["thing"]
  | 6 => ["floor"]
  | 13 => ["_law_script", "_law_k"]
  | 86 => ["floor", "row", "width"]
  | 87 => ["floor"]
  | 98 => ["text"]
  | 102 => ["_law_script"]
  | 110 => ["leap", "down", "right"]
  | 112 => ["leap"]
  | 113 => ["number"]
  | 117 => ["floor", "leap", "spare"]
  | 118 => ["floor"]
  | 119 => ["floor", "most"]
  | 123 => ["floor", "leap", "cell"]
  | 133 => ["floor", "cell"]
  | 139 => ["_law_way"]
  | 140 => ["_law_way"]
  | 141 => ["text"]
  | _ => []
noncomputable def zcv : Nat → List Nat
  | _ => []
structure Txt (K : PySem.W.Frag) (mg : Str → Option Value) (F : Nat → Addr) (FD : Nat → FuncData) (TK : Nat → Tok) (CL : Nat → Addr) : Prop where
  y0 : mg "LeapError" = some (.ref (CL 0))
  y1 : mg "BadFloor" = some (.ref (CL 1))
  q1 : ziA K (CL 1)
  t1 : PySem.W.exmOne K (clV CL 1) (.ref (CL 0)) = some true
  v1 : PySem.W.kitOne K (clV CL 1) (.type "ValueError") = some true
  y2 : mg "BadLeap" = some (.ref (CL 2))
  q2 : ziA K (CL 2)
  t2 : PySem.W.exmOne K (clV CL 2) (.ref (CL 0)) = some true
  v2 : PySem.W.kitOne K (clV CL 2) (.type "ValueError") = some true
  y3 : mg "NoCell" = some (.ref (CL 3))
  q3 : ziA K (CL 3)
  t3 : PySem.W.exmOne K (clV CL 3) (.ref (CL 0)) = some true
  v3 : PySem.W.kitOne K (clV CL 3) (.type "ValueError") = some true
  y4 : mg "BadNumber" = some (.ref (CL 4))
  q4 : ziA K (CL 4)
  t4 : PySem.W.exmOne K (clV CL 4) (.ref (CL 0)) = some true
  v4 : PySem.W.kitOne K (clV CL 4) (.type "ValueError") = some true
  y5 : mg "TooBig" = some (.ref (CL 5))
  q5 : ziA K (CL 5)
  t5 : PySem.W.exmOne K (clV CL 5) (.ref (CL 0)) = some true
  v5 : PySem.W.kitOne K (clV CL 5) (.type "ValueError") = some true
  y6 : mg "BadText" = some (.ref (CL 6))
  q6 : ziA K (CL 6)
  t6 : PySem.W.exmOne K (clV CL 6) (.ref (CL 0)) = some true
  v6 : PySem.W.kitOne K (clV CL 6) (.type "ValueError") = some true
  ap : apart K CL [1, 2, 3, 4, 5, 6] = true
  m0 : mg "is_whole" = some (.ref (F 0))
  f0 : Fun K "is_whole" "is_whole" (top 12) (F 0) (FD 0)
  b0 : Binds K (FD 0) (zaw 0) []
  m1 : mg "is_couple" = some (.ref (F 1))
  f1 : Fun K "is_couple" "is_couple" (top 13) (F 1) (FD 1)
  b1 : Binds K (FD 1) (zaw 1) []
  m2 : mg "is_cell" = some (.ref (F 2))
  f2 : Fun K "is_cell" "is_cell" (top 14) (F 2) (FD 2)
  b2 : Binds K (FD 2) (zaw 2) []
  m3 : mg "is_leap" = some (.ref (F 3))
  f3 : Fun K "is_leap" "is_leap" (top 15) (F 3) (FD 3)
  b3 : Binds K (FD 3) (zaw 3) []
  m4 : mg "is_rising" = some (.ref (F 4))
  f4 : Fun K "is_rising" "is_rising" (top 16) (F 4) (FD 4)
  b4 : Binds K (FD 4) (zaw 4) []
  m5 : mg "is_floor" = some (.ref (F 5))
  f5 : Fun K "is_floor" "is_floor" (top 17) (F 5) (FD 5)
  b5 : Binds K (FD 5) (zaw 5) []
  m6 : mg "checked" = some (.ref (F 6))
  f6 : Fun K "checked" "checked" (top 18) (F 6) (FD 6)
  b6 : Binds K (FD 6) (zaw 6) []
  m13 : mg "_law_cell" = some (.ref (F 13))
  f13 : Fun K "_law_cell" "_law_cell" (top 46) (F 13) (FD 13)
  b13 : Binds K (FD 13) (zaw 13) []
  m86 : mg "shown_line" = some (.ref (F 86))
  f86 : Fun K "shown_line" "shown_line" (top 35) (F 86) (FD 86)
  b86 : Binds K (FD 86) (zaw 86) []
  m87 : mg "shown" = some (.ref (F 87))
  f87 : Fun K "shown" "shown" (top 36) (F 87) (FD 87)
  b87 : Binds K (FD 87) (zaw 87) []
  m98 : mg "cells_in" = some (.ref (F 98))
  f98 : Fun K "cells_in" "cells_in" (top 37) (F 98) (FD 98)
  b98 : Binds K (FD 98) (zaw 98) []
  m102 : mg "law" = some (.ref (F 102))
  f102 : Fun K "law" "law" (top 49) (F 102) (FD 102)
  b102 : Binds K (FD 102) (zaw 102) []
  m110 : mg "can_reach" = some (.ref (F 110))
  f110 : Fun K "can_reach" "can_reach" (top 33) (F 110) (FD 110)
  b110 : Binds K (FD 110) (zaw 110) []
  m112 : mg "checked_leap" = some (.ref (F 112))
  f112 : Fun K "checked_leap" "checked_leap" (top 19) (F 112) (FD 112)
  b112 : Binds K (FD 112) (zaw 112) []
  m113 : mg "refuse_far" = some (.ref (F 113))
  f113 : Fun K "refuse_far" "refuse_far" (top 32) (F 113) (FD 113)
  b113 : Binds K (FD 113) (zaw 113) []
  m117 : mg "cut_of" = some (.ref (F 117))
  f117 : Fun K "cut_of" "cut_of" (top 44) (F 117) (FD 117)
  b117 : Binds K (FD 117) (zaw 117) []
  m118 : mg "checked" = some (.ref (F 118))
  f118 : Fun K "checked" "checked" (top 18) (F 118) (FD 118)
  b118 : Binds K (FD 118) (zaw 118) []
  m119 : mg "refuse_big" = some (.ref (F 119))
  f119 : Fun K "refuse_big" "refuse_big" (top 41) (F 119) (FD 119)
  b119 : Binds K (FD 119) (zaw 119) []
  m123 : mg "near_cells" = some (.ref (F 123))
  f123 : Fun K "near_cells" "near_cells" (top 29) (F 123) (FD 123)
  b123 : Binds K (FD 123) (zaw 123) []
  m133 : mg "checked_cell" = some (.ref (F 133))
  f133 : Fun K "checked_cell" "checked_cell" (top 20) (F 133) (FD 133)
  b133 : Binds K (FD 133) (zaw 133) []
  m139 : mg "_law_kinds_of" = some (.ref (F 139))
  f139 : Fun K "_law_kinds_of" "_law_kinds_of" (top 48) (F 139) (FD 139)
  b139 : Binds K (FD 139) (zaw 139) []
  m140 : mg "_law_deed" = some (.ref (F 140))
  f140 : Fun K "_law_deed" "_law_deed" (top 47) (F 140) (FD 140)
  b140 : Binds K (FD 140) (zaw 140) []
  m141 : mg "read" = some (.ref (F 141))
  f141 : Fun K "read" "read" (top 38) (F 141) (FD 141)
  b141 : Binds K (FD 141) (zaw 141) []
  z_range : mg "range" = none
  z_len : mg "len" = none
  z_isinstance : mg "isinstance" = none
  z_tuple : mg "tuple" = none
  z_all : mg "all" = none
  z_int : mg "int" = none
  z_bool : mg "bool" = none
  z_str : mg "str" = none
  z_enumerate : mg "enumerate" = none
  z_max : mg "max" = none
  c0 : mg "LAST_LINE" = some (.int 7 (TK 0))
  c1 : mg "MOST_CELLS" = some (.int 24 (TK 1))
  c2 : mg "LONGEST_LEAP" = some (.int 4 (TK 2))
  c3 : mg "FURTHEST" = some (.int 12 (TK 3))
  c4 : mg "MOST_TO_CUT" = some (.int 9 (TK 4))
theorem zaQ : (("_law_way" : Str) == ("__debug__" : Str)) = false := by decide +kernel
theorem zaR : (("_law_way" : Str) == ("__classdict__" : Str)) = false := by decide +kernel
theorem zcF : (("_law_kinds_of" : Str) == ("__debug__" : Str)) = false := by decide +kernel
theorem zc5 : (("_law_k" : Str) == ("__debug__" : Str)) = false := by decide +kernel
theorem zc6 : (("_law_k" : Str) == ("__classdict__" : Str)) = false := by decide +kernel
theorem zbc : (("_law_script" : Str) == ("__debug__" : Str)) = false := by decide +kernel
theorem zbd : (("_law_script" : Str) == ("__classdict__" : Str)) = false := by decide +kernel
theorem ze0 : (("_law_cell" : Str) == ("__debug__" : Str)) = false := by decide +kernel
theorem ze1 : (("len" : Str) == ("__debug__" : Str)) = false := by decide +kernel
theorem ze2 : ("len" : Str) ≠ "__name__" := by decide +kernel
theorem ze3 : (("_law_deed" : Str) == ("__debug__" : Str)) = false := by decide +kernel
theorem zlT : (("e" : Str) == ("__debug__" : Str)) = false := by decide +kernel
theorem zlU : (("e" : Str) == ("__classdict__" : Str)) = false := by decide +kernel
theorem zbz : (("BadNumber" : Str) == ("__debug__" : Str)) = false := by decide +kernel
theorem ze4 : (("NoCell" : Str) == ("__debug__" : Str)) = false := by decide +kernel
theorem zdK : (("BadLeap" : Str) == ("__debug__" : Str)) = false := by decide +kernel
theorem zc7 : (("BadFloor" : Str) == ("__debug__" : Str)) = false := by decide +kernel
theorem zci : (("BadText" : Str) == ("__debug__" : Str)) = false := by decide +kernel
theorem ze5 : (("TooBig" : Str) == ("__debug__" : Str)) = false := by decide +kernel
theorem ze6 : (("LeapError" : Str) == ("__debug__" : Str)) = false := by decide +kernel
theorem zcw : (("_law_some" : Str) == ("__debug__" : Str)) = false := by decide +kernel
theorem zcx : (("_law_some" : Str) == ("__classdict__" : Str)) = false := by decide +kernel
theorem zbG : (("checked" : Str) == ("__debug__" : Str)) = false := by decide +kernel
theorem zaV : (("checked_leap" : Str) == ("__debug__" : Str)) = false := by decide +kernel
theorem zeb : (("near_cells" : Str) == ("__debug__" : Str)) = false := by decide +kernel
theorem ze7 : (("can_reach" : Str) == ("__debug__" : Str)) = false := by decide +kernel
theorem ze8 : (("_law_c" : Str) == ("__debug__" : Str)) = false := by decide +kernel
theorem ze9 : (("_law_c" : Str) == ("__classdict__" : Str)) = false := by decide +kernel
theorem zcL : (("tuple" : Str) == ("__debug__" : Str)) = false := by decide +kernel
theorem zcM : ("tuple" : Str) ≠ "__name__" := by decide +kernel
theorem zii : (("cut_of" : Str) == ("__debug__" : Str)) = false := by decide +kernel
theorem zlg : (("read" : Str) == ("__debug__" : Str)) = false := by decide +kernel
theorem zay : (("floor" : Str) == ("__debug__" : Str)) = false := by decide +kernel
theorem zaz : (("floor" : Str) == ("__classdict__" : Str)) = false := by decide +kernel
theorem zbW : (("is_floor" : Str) == ("__debug__" : Str)) = false := by decide +kernel
theorem zaF : (("thing" : Str) == ("__debug__" : Str)) = false := by decide +kernel
theorem zaG : (("thing" : Str) == ("__classdict__" : Str)) = false := by decide +kernel
theorem zfa : (("is_rising" : Str) == ("__debug__" : Str)) = false := by decide +kernel
theorem zlh : (("part" : Str) == ("__debug__" : Str)) = false := by decide +kernel
theorem zli : (("part" : Str) == ("__classdict__" : Str)) = false := by decide +kernel
theorem zdL : (("is_cell" : Str) == ("__debug__" : Str)) = false := by decide +kernel
theorem zkf : (("all" : Str) == ("__debug__" : Str)) = false := by decide +kernel
theorem zkg : ("all" : Str) ≠ "__name__" := by decide +kernel
theorem zec : (("MOST_CELLS" : Str) == ("__debug__" : Str)) = false := by decide +kernel
theorem zb6 : (("cells" : Str) == ("__debug__" : Str)) = false := by decide +kernel
theorem zb7 : (("cells" : Str) == ("__classdict__" : Str)) = false := by decide +kernel
theorem zgr : (("place" : Str) == ("__debug__" : Str)) = false := by decide +kernel
theorem zgs : (("place" : Str) == ("__classdict__" : Str)) = false := by decide +kernel
theorem zcy : (("LAST_LINE" : Str) == ("__debug__" : Str)) = false := by decide +kernel
theorem zaZ : (("is_whole" : Str) == ("__debug__" : Str)) = false := by decide +kernel
theorem zcz : (("is_couple" : Str) == ("__debug__" : Str)) = false := by decide +kernel
theorem zju : (("least" : Str) == ("__debug__" : Str)) = false := by decide +kernel
theorem zjv : (("least" : Str) == ("__classdict__" : Str)) = false := by decide +kernel
theorem zfP : (("most" : Str) == ("__debug__" : Str)) = false := by decide +kernel
theorem zfQ : (("most" : Str) == ("__classdict__" : Str)) = false := by decide +kernel
theorem zn7 : (("int" : Str) == ("__debug__" : Str)) = false := by decide +kernel
theorem zn8 : ("int" : Str) ≠ "__name__" := by decide +kernel
theorem zlj : (("bool" : Str) == ("__debug__" : Str)) = false := by decide +kernel
theorem zlk : ("bool" : Str) ≠ "__name__" := by decide +kernel
theorem zc8 : (("leap" : Str) == ("__debug__" : Str)) = false := by decide +kernel
theorem zc9 : (("leap" : Str) == ("__classdict__" : Str)) = false := by decide +kernel
theorem zgQ : (("is_leap" : Str) == ("__debug__" : Str)) = false := by decide +kernel
theorem zda : (("LONGEST_LEAP" : Str) == ("__debug__" : Str)) = false := by decide +kernel
theorem zdb : (("cell" : Str) == ("__debug__" : Str)) = false := by decide +kernel
theorem zdc : (("cell" : Str) == ("__classdict__" : Str)) = false := by decide +kernel
theorem zdd : (("checked_cell" : Str) == ("__debug__" : Str)) = false := by decide +kernel
theorem zll : (("down" : Str) == ("__debug__" : Str)) = false := by decide +kernel
theorem zlm : (("down" : Str) == ("__classdict__" : Str)) = false := by decide +kernel
theorem zb8 : (("refuse_far" : Str) == ("__debug__" : Str)) = false := by decide +kernel
theorem zjw : (("right" : Str) == ("__debug__" : Str)) = false := by decide +kernel
theorem zjx : (("right" : Str) == ("__classdict__" : Str)) = false := by decide +kernel
theorem zdr : (("MOST_TO_CUT" : Str) == ("__debug__" : Str)) = false := by decide +kernel
theorem zed : (("refuse_big" : Str) == ("__debug__" : Str)) = false := by decide +kernel
theorem zjy : (("spare" : Str) == ("__debug__" : Str)) = false := by decide +kernel
theorem zjz : (("spare" : Str) == ("__classdict__" : Str)) = false := by decide +kernel
theorem zee : (("text" : Str) == ("__debug__" : Str)) = false := by decide +kernel
theorem zef : (("text" : Str) == ("__classdict__" : Str)) = false := by decide +kernel
theorem zn9 : (("str" : Str) == ("__debug__" : Str)) = false := by decide +kernel
theorem zoa : ("str" : Str) ≠ "__name__" := by decide +kernel
theorem zfR : (("cells_in" : Str) == ("__debug__" : Str)) = false := by decide +kernel
theorem zjA : (("shown" : Str) == ("__debug__" : Str)) = false := by decide +kernel
theorem zln : (("line" : Str) == ("__debug__" : Str)) = false := by decide +kernel
theorem zlo : (("line" : Str) == ("__classdict__" : Str)) = false := by decide +kernel
theorem zlp : (("sign" : Str) == ("__debug__" : Str)) = false := by decide +kernel
theorem zlq : (("sign" : Str) == ("__classdict__" : Str)) = false := by decide +kernel
theorem zfb : (("column" : Str) == ("__debug__" : Str)) = false := by decide +kernel
theorem zfc : (("column" : Str) == ("__classdict__" : Str)) = false := by decide +kernel
theorem zij : (("row" : Str) == ("__debug__" : Str)) = false := by decide +kernel
theorem zik : (("row" : Str) == ("__classdict__" : Str)) = false := by decide +kernel
theorem zgt : (("width" : Str) == ("__debug__" : Str)) = false := by decide +kernel
theorem zgu : (("width" : Str) == ("__classdict__" : Str)) = false := by decide +kernel
theorem zeg : (("shown_line" : Str) == ("__debug__" : Str)) = false := by decide +kernel
theorem zob : (("max" : Str) == ("__debug__" : Str)) = false := by decide +kernel
theorem zoc : ("max" : Str) ≠ "__name__" := by decide +kernel
theorem zde : (("FURTHEST" : Str) == ("__debug__" : Str)) = false := by decide +kernel
theorem zil : (("number" : Str) == ("__debug__" : Str)) = false := by decide +kernel
theorem zim : (("number" : Str) == ("__classdict__" : Str)) = false := by decide +kernel
theorem sc0 : FnScope ["thing", "least", "most"] ["thing", "least", "most"] (zaa (top 12)) := ⟨rfl, rfl, rfl, by decide +kernel, rfl, by decide +kernel, by decide +kernel⟩
theorem zjB : Vis (zaa (top 12)) "least" := .inl (by decide +kernel)
theorem zeh : Vis (zaa (top 12)) "thing" := .inl (by decide +kernel)
theorem zlr : Vis (zaa (top 12)) "most" := .inl (by decide +kernel)
theorem zb9 : (zaa (top 12)).names.lookup ("isinstance" : Str) = some .globalImplicit := by decide +kernel
theorem zod : (zaa (top 12)).names.lookup ("int" : Str) = some .globalImplicit := by decide +kernel
theorem zls : (zaa (top 12)).names.lookup ("bool" : Str) = some .globalImplicit := by decide +kernel
theorem sc1 : FnScope ["thing"] ["thing"] (zaa (top 13)) := ⟨rfl, rfl, rfl, by decide +kernel, rfl, by decide +kernel, by decide +kernel⟩
theorem zgv : Vis (zaa (top 13)) "thing" := .inl (by decide +kernel)
theorem zoe : (zaa (top 13)).names.lookup ("len" : Str) = some .globalImplicit := by decide +kernel
theorem zei : (zaa (top 13)).names.lookup ("isinstance" : Str) = some .globalImplicit := by decide +kernel
theorem zjC : (zaa (top 13)).names.lookup ("tuple" : Str) = some .globalImplicit := by decide +kernel
theorem sc2 : FnScope ["thing"] ["thing"] (zaa (top 14)) := ⟨rfl, rfl, rfl, by decide +kernel, rfl, by decide +kernel, by decide +kernel⟩
theorem zej : Vis (zaa (top 14)) "thing" := .inl (by decide +kernel)
theorem zcA : (zaa (top 14)).names.lookup ("LAST_LINE" : Str) = some .globalImplicit := by decide +kernel
theorem zdf : (zaa (top 14)).names.lookup ("is_whole" : Str) = some .globalImplicit := by decide +kernel
theorem zfd : (zaa (top 14)).names.lookup ("is_couple" : Str) = some .globalImplicit := by decide +kernel
theorem sc3 : FnScope ["thing"] ["thing"] (zaa (top 15)) := ⟨rfl, rfl, rfl, by decide +kernel, rfl, by decide +kernel, by decide +kernel⟩
theorem zcN : Vis (zaa (top 15)) "thing" := .inl (by decide +kernel)
theorem zdg : (zaa (top 15)).names.lookup ("is_whole" : Str) = some .globalImplicit := by decide +kernel
theorem zdh : (zaa (top 15)).names.lookup ("LONGEST_LEAP" : Str) = some .globalImplicit := by decide +kernel
theorem zfe : (zaa (top 15)).names.lookup ("is_couple" : Str) = some .globalImplicit := by decide +kernel
theorem sc4 : FnScope ["cells"] ["cells"] (zaa (top 16)) := ⟨rfl, rfl, rfl, by decide +kernel, rfl, by decide +kernel, by decide +kernel⟩
theorem zjD : Vis (zaa (top 16)) "cells" := .inr (.inl (by decide +kernel))
theorem zof : (zaa (top 16)).names.lookup ("len" : Str) = some .globalImplicit := by decide +kernel
theorem zjE : (zaa (top 16)).names.lookup ("range" : Str) = some .globalImplicit := by decide +kernel
theorem zog : (zaa (top 16)).names.lookup ("all" : Str) = some .globalImplicit := by decide +kernel
theorem sc5 : FnScope ["thing"] ["thing"] (zaa (top 17)) := ⟨rfl, rfl, rfl, by decide +kernel, rfl, by decide +kernel, by decide +kernel⟩
theorem zcO : Vis (zaa (top 17)) "thing" := .inl (by decide +kernel)
theorem zff : (zaa (top 17)).names.lookup ("is_rising" : Str) = some .globalImplicit := by decide +kernel
theorem zoh : (zaa (top 17)).names.lookup ("all" : Str) = some .globalImplicit := by decide +kernel
theorem zoi : (zaa (top 17)).names.lookup ("len" : Str) = some .globalImplicit := by decide +kernel
theorem zek : (zaa (top 17)).names.lookup ("MOST_CELLS" : Str) = some .globalImplicit := by decide +kernel
theorem zel : (zaa (top 17)).names.lookup ("isinstance" : Str) = some .globalImplicit := by decide +kernel
theorem zjF : (zaa (top 17)).names.lookup ("tuple" : Str) = some .globalImplicit := by decide +kernel
theorem sc6 : FnScope ["floor"] ["floor"] (zaa (top 18)) := ⟨rfl, rfl, rfl, by decide +kernel, rfl, by decide +kernel, by decide +kernel⟩
theorem zgw : Vis (zaa (top 18)) "floor" := .inl (by decide +kernel)
theorem zfS : (zaa (top 18)).names.lookup ("is_floor" : Str) = some .globalImplicit := by decide +kernel
theorem zs2 : FnScope ["_law_script", "_law_k"] ["_law_script", "_law_k"] (zaa (top 46)) := ⟨rfl, rfl, rfl, by decide +kernel, rfl, by decide +kernel, by decide +kernel⟩
theorem zdM : Vis (zaa (top 46)) "_law_k" := .inl (by decide +kernel)
theorem zbA : Vis (zaa (top 46)) "_law_script" := .inl (by decide +kernel)
theorem zlt : (zaa (top 46)).names.lookup ("len" : Str) = some .globalImplicit := by decide +kernel
theorem zs3 : FnScope ["floor", "row", "width"] ["floor", "row", "width"] (zaa (top 35)) := ⟨rfl, rfl, rfl, by decide +kernel, rfl, by decide +kernel, by decide +kernel⟩
theorem zin : Vis (zaa (top 35)) "width" := .inl (by decide +kernel)
theorem zio : (zaa (top 35)).names.lookup ("range" : Str) = some .globalImplicit := by decide +kernel
theorem zsA : FnScope ["floor", "width"] ["floor"] (zaa (top 36)) := ⟨rfl, rfl, rfl, by decide +kernel, rfl, by decide +kernel, by decide +kernel⟩
theorem zdi : Vis (zaa (top 36)) "floor" := .inr (.inl (by decide +kernel))
theorem ziq : Loc (zaa (top 36)) "width" := .inr (by decide +kernel)
theorem zir : (zaa (top 36)).names.lookup ("range" : Str) = some .globalImplicit := by decide +kernel
theorem zlu : (zaa (top 36)).names.lookup ("max" : Str) = some .globalImplicit := by decide +kernel
theorem zfT : (zaa (top 36)).names.lookup ("checked" : Str) = some .globalImplicit := by decide +kernel
theorem zpT : FnScope ["text", "cells", "row", "line", "column", "sign"] ["text"] (zaa (top 37)) := ⟨rfl, rfl, rfl, by decide +kernel, rfl, by decide +kernel, by decide +kernel⟩
theorem zfg : Vis (zaa (top 37)) "cells" := .inl (by decide +kernel)
theorem zjG : Vis (zaa (top 37)) "text" := .inl (by decide +kernel)
theorem zjH : Vis (zaa (top 37)) "line" := .inl (by decide +kernel)
theorem zjI : Vis (zaa (top 37)) "sign" := .inl (by decide +kernel)
theorem zgR : Vis (zaa (top 37)) "column" := .inl (by decide +kernel)
theorem zlv : Vis (zaa (top 37)) "row" := .inl (by decide +kernel)
theorem zgS : Loc (zaa (top 37)) "column" := .inl (by decide +kernel)
theorem zjJ : Loc (zaa (top 37)) "sign" := .inl (by decide +kernel)
theorem zlw : Loc (zaa (top 37)) "row" := .inl (by decide +kernel)
theorem zjK : Loc (zaa (top 37)) "line" := .inl (by decide +kernel)
theorem zis : Loc (zaa (top 37)) "cells" := .inl (by decide +kernel)
theorem zit : (zaa (top 37)).names.lookup ("tuple" : Str) = some .globalImplicit := by decide +kernel
theorem zca : (zaa (top 37)).names.lookup ("enumerate" : Str) = some .globalImplicit := by decide +kernel
theorem zoj : FnScope ["_law_script", "_law_way"] ["_law_script"] (zaa (top 49)) := ⟨rfl, rfl, rfl, by decide +kernel, rfl, by decide +kernel, by decide +kernel⟩
theorem zem : Vis (zaa (top 49)) "_law_way" := .inr (.inl (by decide +kernel))
theorem zcG : Vis (zaa (top 49)) "_law_script" := .inl (by decide +kernel)
theorem zen : Loc (zaa (top 49)) "_law_way" := .inr (by decide +kernel)
theorem zcb : (zaa (top 49)).names.lookup ("_law_kinds_of" : Str) = some .globalImplicit := by decide +kernel
theorem zgT : (zaa (top 49)).names.lookup ("range" : Str) = some .globalImplicit := by decide +kernel
theorem zds : (zaa (top 49)).names.lookup ("_law_cell" : Str) = some .globalImplicit := by decide +kernel
theorem zry : FnScope ["leap", "down", "right", "divisor"] ["leap", "down", "right"] (zaa (top 33)) := ⟨rfl, rfl, rfl, by decide +kernel, rfl, by decide +kernel, by decide +kernel⟩
theorem ziu : Vis (zaa (top 33)) "leap" := .inl (by decide +kernel)
theorem ziv : Vis (zaa (top 33)) "down" := .inl (by decide +kernel)
theorem zgU : Vis (zaa (top 33)) "right" := .inl (by decide +kernel)
theorem zcj : (zaa (top 33)).names.lookup ("checked_leap" : Str) = some .globalImplicit := by decide +kernel
theorem zbB : (zaa (top 33)).names.lookup ("refuse_far" : Str) = some .globalImplicit := by decide +kernel
theorem zrz : FnScope ["leap"] ["leap"] (zaa (top 19)) := ⟨rfl, rfl, rfl, by decide +kernel, rfl, by decide +kernel, by decide +kernel⟩
theorem zfh : Vis (zaa (top 19)) "leap" := .inl (by decide +kernel)
theorem zfi : (zaa (top 19)).names.lookup ("is_leap" : Str) = some .globalImplicit := by decide +kernel
theorem zfj : (zaa (top 19)).names.lookup ("BadLeap" : Str) = some .globalImplicit := by decide +kernel
theorem zrA : FnScope ["number"] ["number"] (zaa (top 32)) := ⟨rfl, rfl, rfl, by decide +kernel, rfl, by decide +kernel, by decide +kernel⟩
theorem zfU : Vis (zaa (top 32)) "number" := .inl (by decide +kernel)
theorem zcc : (zaa (top 32)).names.lookup ("FURTHEST" : Str) = some .globalImplicit := by decide +kernel
theorem zeo : (zaa (top 32)).names.lookup ("is_whole" : Str) = some .globalImplicit := by decide +kernel
theorem zdt : (zaa (top 32)).names.lookup ("BadNumber" : Str) = some .globalImplicit := by decide +kernel
theorem zrB : FnScope ["floor", "leap", "spare", "cuts", "cut"] ["floor", "leap", "spare"] (zaa (top 44)) := ⟨rfl, rfl, rfl, by decide +kernel, rfl, by decide +kernel, by decide +kernel⟩
theorem zdN : Vis (zaa (top 44)) "floor" := .inl (by decide +kernel)
theorem ziw : Vis (zaa (top 44)) "leap" := .inl (by decide +kernel)
theorem zgV : Vis (zaa (top 44)) "spare" := .inl (by decide +kernel)
theorem zfk : (zaa (top 44)).names.lookup ("checked" : Str) = some .globalImplicit := by decide +kernel
theorem zck : (zaa (top 44)).names.lookup ("checked_leap" : Str) = some .globalImplicit := by decide +kernel
theorem zcH : (zaa (top 44)).names.lookup ("MOST_TO_CUT" : Str) = some .globalImplicit := by decide +kernel
theorem zdj : (zaa (top 44)).names.lookup ("refuse_big" : Str) = some .globalImplicit := by decide +kernel
theorem zep : (zaa (top 44)).names.lookup ("is_whole" : Str) = some .globalImplicit := by decide +kernel
theorem zdu : (zaa (top 44)).names.lookup ("BadNumber" : Str) = some .globalImplicit := by decide +kernel
theorem zrC : FnScope ["floor"] ["floor"] (zaa (top 18)) := ⟨rfl, rfl, rfl, by decide +kernel, rfl, by decide +kernel, by decide +kernel⟩
theorem zdO : Vis (zaa (top 18)) "floor" := .inl (by decide +kernel)
theorem zeq : (zaa (top 18)).names.lookup ("is_floor" : Str) = some .globalImplicit := by decide +kernel
theorem zer : (zaa (top 18)).names.lookup ("BadFloor" : Str) = some .globalImplicit := by decide +kernel
theorem zrD : FnScope ["floor", "most"] ["floor", "most"] (zaa (top 41)) := ⟨rfl, rfl, rfl, by decide +kernel, rfl, by decide +kernel, by decide +kernel⟩
theorem zgW : Vis (zaa (top 41)) "floor" := .inl (by decide +kernel)
theorem zfl : Vis (zaa (top 41)) "most" := .inl (by decide +kernel)
theorem zjL : (zaa (top 41)).names.lookup ("len" : Str) = some .globalImplicit := by decide +kernel
theorem zfV : (zaa (top 41)).names.lookup ("TooBig" : Str) = some .globalImplicit := by decide +kernel
theorem zrE : FnScope ["floor", "leap", "cell"] ["floor", "leap", "cell"] (zaa (top 29)) := ⟨rfl, rfl, rfl, by decide +kernel, rfl, by decide +kernel, by decide +kernel⟩
theorem zdP : Vis (zaa (top 29)) "floor" := .inl (by decide +kernel)
theorem zix : Vis (zaa (top 29)) "leap" := .inl (by decide +kernel)
theorem ziy : Vis (zaa (top 29)) "cell" := .inl (by decide +kernel)
theorem zfm : (zaa (top 29)).names.lookup ("checked" : Str) = some .globalImplicit := by decide +kernel
theorem zcl : (zaa (top 29)).names.lookup ("checked_leap" : Str) = some .globalImplicit := by decide +kernel
theorem zcm : (zaa (top 29)).names.lookup ("checked_cell" : Str) = some .globalImplicit := by decide +kernel
theorem zrF : FnScope ["floor", "cell"] ["floor", "cell"] (zaa (top 20)) := ⟨rfl, rfl, rfl, by decide +kernel, rfl, by decide +kernel, by decide +kernel⟩
theorem zdk : Vis (zaa (top 20)) "cell" := .inl (by decide +kernel)
theorem zgX : Vis (zaa (top 20)) "floor" := .inl (by decide +kernel)
theorem zfn : (zaa (top 20)).names.lookup ("is_cell" : Str) = some .globalImplicit := by decide +kernel
theorem zfW : (zaa (top 20)).names.lookup ("NoCell" : Str) = some .globalImplicit := by decide +kernel
theorem zlx : FnScope ["_law_way", "_law_some", "e"] ["_law_way"] (zaa (top 48)) := ⟨rfl, rfl, rfl, by decide +kernel, rfl, by decide +kernel, by decide +kernel⟩
theorem zes : Vis (zaa (top 48)) "_law_way" := .inl (by decide +kernel)
theorem zdQ : Vis (zaa (top 48)) "e" := .inl (by decide +kernel)
theorem zbM : Vis (zaa (top 48)) "_law_some" := .inl (by decide +kernel)
theorem zbN : Loc (zaa (top 48)) "_law_some" := .inl (by decide +kernel)
theorem zly : (zaa (top 48)).names.lookup ("e" : Str) = some .local := by decide +kernel
theorem zdv : (zaa (top 48)).names.lookup ("_law_deed" : Str) = some .globalImplicit := by decide +kernel
theorem zaH : (zaa (top 48)).names.lookup ("isinstance" : Str) = some .globalImplicit := by decide +kernel
theorem zdw : (zaa (top 48)).names.lookup ("BadNumber" : Str) = some .globalImplicit := by decide +kernel
theorem zfX : (zaa (top 48)).names.lookup ("NoCell" : Str) = some .globalImplicit := by decide +kernel
theorem zfo : (zaa (top 48)).names.lookup ("BadLeap" : Str) = some .globalImplicit := by decide +kernel
theorem zet : (zaa (top 48)).names.lookup ("BadFloor" : Str) = some .globalImplicit := by decide +kernel
theorem zfp : (zaa (top 48)).names.lookup ("BadText" : Str) = some .globalImplicit := by decide +kernel
theorem zfY : (zaa (top 48)).names.lookup ("TooBig" : Str) = some .globalImplicit := by decide +kernel
theorem zdx : (zaa (top 48)).names.lookup ("LeapError" : Str) = some .globalImplicit := by decide +kernel
theorem zrG : FnScope ["_law_way"] ["_law_way"] (zaa (top 47)) := ⟨rfl, rfl, rfl, by decide +kernel, rfl, by decide +kernel, by decide +kernel⟩
theorem zaW : Vis (zaa (top 47)) "_law_way" := .inl (by decide +kernel)
theorem zfq : (zaa (top 47)).names.lookup ("checked" : Str) = some .globalImplicit := by decide +kernel
theorem zcn : (zaa (top 47)).names.lookup ("checked_leap" : Str) = some .globalImplicit := by decide +kernel
theorem zdl : (zaa (top 47)).names.lookup ("near_cells" : Str) = some .globalImplicit := by decide +kernel
theorem zdy : (zaa (top 47)).names.lookup ("can_reach" : Str) = some .globalImplicit := by decide +kernel
theorem zdR : (zaa (top 47)).names.lookup ("range" : Str) = some .globalImplicit := by decide +kernel
theorem zgY : (zaa (top 47)).names.lookup ("tuple" : Str) = some .globalImplicit := by decide +kernel
theorem zfZ : (zaa (top 47)).names.lookup ("cut_of" : Str) = some .globalImplicit := by decide +kernel
theorem ziz : (zaa (top 47)).names.lookup ("read" : Str) = some .globalImplicit := by decide +kernel
theorem zok : FnScope ["text", "floor"] ["text"] (zaa (top 38)) := ⟨rfl, rfl, rfl, by decide +kernel, rfl, by decide +kernel, by decide +kernel⟩
theorem zdm : Vis (zaa (top 38)) "text" := .inl (by decide +kernel)
theorem zco : Vis (zaa (top 38)) "floor" := .inl (by decide +kernel)
theorem zgZ : Loc (zaa (top 38)) "floor" := .inl (by decide +kernel)
theorem zdn : (zaa (top 38)).names.lookup ("isinstance" : Str) = some .globalImplicit := by decide +kernel
theorem zjM : (zaa (top 38)).names.lookup ("str" : Str) = some .globalImplicit := by decide +kernel
theorem zcB : (zaa (top 38)).names.lookup ("BadText" : Str) = some .globalImplicit := by decide +kernel
theorem zeu : (zaa (top 38)).names.lookup ("cells_in" : Str) = some .globalImplicit := by decide +kernel
theorem zg0 : (zaa (top 38)).names.lookup ("shown" : Str) = some .globalImplicit := by decide +kernel
theorem zev : (zaa (top 38)).names.lookup ("is_floor" : Str) = some .globalImplicit := by decide +kernel
section
variable {Pg : Program} {w : World} {K : PySem.W.Frag} {mg : Str → Option Value} {base : Heap} {F : Nat → Addr} {FD : Nat → FuncData} {TK : Nat → Tok} {CL : Nat → Addr} {n fuel : Nat}
theorem zrH (T : Txt K mg F FD TK CL) (hall : ∀ i, FnOk Pg w K mg base CX0 n (F i) (FD i) (zaw i) (spA K (zah U fuel n) i (zcv i))) (cdv : Value) (A : Around) (outer : List PySem.Env) (s : Shared) (H : Hp) (E : XK)
    (hr : Room n (A.deeper (envOfC "is_whole" (zaa (top 12)) s.heap.objs.size (F 0) cdv))) :
    ISs (zbo CX0 Pg w K mg base ["thing", "least", "most"] "is_whole" (zaa (top 12)) (F 0) cdv A outer s H E).nox (za4 (zah U fuel n) fuel ir0) (zae (top 12)) :=
  (zat (zmT (IW.t (zoA (zcZ (zeM (t := .bool) zb9 T.z_isinstance zls T.z_bool PyProof.Rows.boot_bool (zal 0 rfl zeh zaF zaG) zlk zlj zab zab (zaq zab zak)) (zd4 _ _) za7) (ziY (zcX (zcZ (zeM (t := .int) zb9 T.z_isinstance zod T.z_int PyProof.Rows.boot_int (zal 0 rfl zeh zaF zaG) zn8 zn7 zab zab (zaq zab zak)) (zd4 _ _) za7))))) (zat (zb2 zr1)
    zaO) zaO)
    (zat (zb2 (zkM ziV ziV (zal 1 rfl zjB zju zjv) (zal 0 rfl zeh zaF zaG) (zal 2 rfl zlr zfP zfQ)))
    zaO))
theorem zrI (T : Txt K mg F FD TK CL) (hall : ∀ i, FnOk Pg w K mg base CX0 n (F i) (FD i) (zaw i) (spA K (zah U fuel n) i (zcv i))) (cdv : Value) (A : Around) (outer : List PySem.Env) (s : Shared) (H : Hp) (E : XK)
    (hr : Room n (A.deeper (envOfC "is_couple" (zaa (top 13)) s.heap.objs.size (F 1) cdv))) :
    ISs (zbo CX0 Pg w K mg base ["thing"] "is_couple" (zaa (top 13)) (F 1) cdv A outer s H E).nox (za4 (zah U fuel n) fuel ir1) (zae (top 13)) :=
  (zat (zb2 (zgD (zeM (t := .tuple) zei T.z_isinstance zjC T.z_tuple PyProof.Rows.boot_tuple (zal 0 rfl zgv zaF zaG) zcM zcL zab zab (zaq zab zak)) (ziX (ziW (zeH hr.units) (zbt zeI zoe T.z_len PySem.boot_len (zaf (zal 0 rfl zgv zaF zaG) zao zab) ze2 ze1 zab zak) zax (zbe _)))))
    zaO)
theorem zrJ (T : Txt K mg F FD TK CL) (hall : ∀ i, FnOk Pg w K mg base CX0 n (F i) (FD i) (zaw i) (spA K (zah U fuel n) i (zcv i))) (cdv : Value) (A : Around) (outer : List PySem.Env) (s : Shared) (H : Hp) (E : XK)
    (hr : Room n (A.deeper (envOfC "is_cell" (zaa (top 14)) s.heap.objs.size (F 2) cdv))) :
    ISs (zbo CX0 Pg w K mg base ["thing"] "is_cell" (zaa (top 14)) (F 2) cdv A outer s H E).nox (za4 (zah U fuel n) fuel ir2) (zae (top 14)) :=
  (zat (zb2 (zgD (zaS (zaC (hall 1) rfl) hr zfd T.m1 T.f1.kp (T.b1) (zaf (zal 0 rfl zej zaF zaG) zao zab) zcz zab zak) (zgD (zaS (zaC (hall 0) rfl) hr zdf T.m0 T.f0.kp (T.b0) (zaf (zhM hr.units (zal 0 rfl zej zaF zaG) zax (fun _ _ => rfl)) (zaf zax (zaf (zbQ zcA T.c0 zcy) zao zab) zac) zar) zaZ zar (zaq zac (zaq zab zak))) (ziX (zaS (zaC (hall 0) rfl) hr zdf T.m0 T.f0.kp (T.b0) (zaf (zhM hr.units (zal 0 rfl zej zaF zaG) zax (fun _ _ => rfl)) (zaf zax (zaf (zbQ zcA T.c0 zcy) zao zab) zac) zar) zaZ zar (zaq zac (zaq zab zak)))))))
    zaO)
theorem zrK (T : Txt K mg F FD TK CL) (hall : ∀ i, FnOk Pg w K mg base CX0 n (F i) (FD i) (zaw i) (spA K (zah U fuel n) i (zcv i))) (cdv : Value) (A : Around) (outer : List PySem.Env) (s : Shared) (H : Hp) (E : XK)
    (hr : Room n (A.deeper (envOfC "is_leap" (zaa (top 15)) s.heap.objs.size (F 3) cdv))) :
    ISs (zbo CX0 Pg w K mg base ["thing"] "is_leap" (zaa (top 15)) (F 3) cdv A outer s H E).nox (za4 (zah U fuel n) fuel ir3) (zae (top 15)) :=
  (zat (zb2 (zgD (zaS (zaC (hall 1) rfl) hr zfe T.m1 T.f1.kp (T.b1) (zaf (zal 0 rfl zcN zaF zaG) zao zab) zcz zab zak) (zgD (zaS (zaC (hall 0) rfl) hr zdg T.m0 T.f0.kp (T.b0) (zaf (zhM hr.units (zal 0 rfl zcN zaF zaG) zax (fun _ _ => rfl)) (zaf zax (zaf (zbQ zdh T.c2 zda) zao zab) zac) zar) zaZ zar (zaq zac (zaq zab zak))) (ziX (zaS (zaC (hall 0) rfl) hr zdg T.m0 T.f0.kp (T.b0) (zaf (zhM hr.units (zal 0 rfl zcN zaF zaG) zax (fun _ _ => rfl)) (zaf zax (zaf (zhM hr.units (zal 0 rfl zcN zaF zaG) zax (fun _ _ => rfl)) zao zar) zac) zar) zaZ zar (zaq zac (zaq zar zak)))))))
    zaO)
theorem zrL (T : Txt K mg F FD TK CL) (hall : ∀ i, FnOk Pg w K mg base CX0 n (F i) (FD i) (zaw i) (spA K (zah U fuel n) i (zcv i))) (cdv : Value) (A : Around) (outer : List PySem.Env) (s : Shared) (H : Hp) (E : XK)
    (hr : Room n (A.deeper (envOfC "is_rising" (zaa (top 16)) s.heap.objs.size (F 4) cdv))) :
    ISs (zbo CX0 Pg w K mg base ["cells"] "is_rising" (zaa (top 16)) (F 4) cdv A outer s H E).nox (za4 (zah U fuel n) fuel ir4) (zae (top 16)) :=
  (zat (zb2 (zbt (zka rfl) zog T.z_all (by decide +kernel) (zaf (zcr rfl (zcs (sc := zaa (top 16)) (N := ["cells"]) rfl rfl (by decide +kernel)) (zi1 zjE T.z_range (zaf zax (zaf (zbt zeI zof T.z_len PySem.boot_len (zaf (zal 0 rfl zjD zb6 zb7) zao zab) ze2 ze1 zab zak) zao zaP) zac) zac zaP) (.inl ⟨rfl, rfl⟩) (fun _ _ _ _ => (ziW (zmO hr.units) (zhM hr.units (zal 1 rfl (zbl (by decide +kernel)) zb6 zb7) (zlD zmL (zal 0 rfl (zbm (by decide +kernel)) zgr zgs) zax) (fun _ _ => rfl)) (zhM hr.units (zal 1 rfl (zbl (by decide +kernel)) zb6 zb7) (zal 0 rfl (zbm (by decide +kernel)) zgr zgs) (fun _ _ => rfl)) (zbe _)))) zao zaB) zkg zkf zaB zak))
    zaO)
theorem zrM (T : Txt K mg F FD TK CL) (hall : ∀ i, FnOk Pg w K mg base CX0 n (F i) (FD i) (zaw i) (spA K (zah U fuel n) i (zcv i))) (cdv : Value) (A : Around) (outer : List PySem.Env) (s : Shared) (H : Hp) (E : XK)
    (hr : Room n (A.deeper (envOfC "is_floor" (zaa (top 17)) s.heap.objs.size (F 5) cdv))) :
    ISs (zbo CX0 Pg w K mg base ["thing"] "is_floor" (zaa (top 17)) (F 5) cdv A outer s H E).nox (za4 (zah U fuel n) fuel ir5) (zae (top 17)) :=
  (zat (zmT (IW.t (zoA (zcX (zcZ (zeM (t := .tuple) zel T.z_isinstance zjF T.z_tuple PyProof.Rows.boot_tuple (zal 0 rfl zcO zaF zaG) zcM zcL zab zab (zaq zab zak)) (zd4 _ _) za7)) (ziY (zcX (zkN rfl rfl ziV ziV zax (zbt zeI zoi T.z_len PySem.boot_len (zaf (zal 0 rfl zcO zaF zaG) zao zab) ze2 ze1 zab zak) (zbQ zek T.c1 zec)))))) (zat (zb2 zr1)
    zaO) zaO)
    (zat (zb2 (zgD (zbt (zka rfl) zoh T.z_all (by decide +kernel) (zaf (zcr rfl (zcs (sc := zaa (top 17)) (N := ["thing"]) rfl rfl (by decide +kernel)) (zhS (zal 0 rfl zcO zaF zaG)) (.inl ⟨rfl, rfl⟩) (fun _ _ _ _ => (zaS (zaC (hall 2) rfl) hr (zhZ (by decide +kernel)) T.m2 T.f2.kp (T.b2) (zaf (zal 0 rfl (zbm (by decide +kernel)) zlh zli) zao zab) zdL zab zak))) zao zaB) zkg zkf zaB zak) (ziX (zaS (zaC (hall 4) rfl) hr zff T.m4 T.f4.kp (T.b4) (zaf (zal 0 rfl zcO zaF zaG) zao zab) zfa zab zak))))
    zaO))
theorem zrN (T : Txt K mg F FD TK CL) (hall : ∀ i, FnOk Pg w K mg base CX0 n (F i) (FD i) (zaw i) (spA K (zah U fuel n) i (zcv i))) (cdv : Value) (A : Around) (outer : List PySem.Env) (s : Shared) (H : Hp) (E : XK)
    (hr : Room n (A.deeper (envOfC "checked" (zaa (top 18)) s.heap.objs.size (F 6) cdv))) :
    ISs (zbo CX0 Pg w K mg base ["floor"] "checked" (zaa (top 18)) (F 6) cdv A outer s H E).nox (za4 (zah U fuel n) fuel ir6) (zae (top 18)) :=
  (zat (zmT (zcX (zcZ (zaS (zaC (hall 5) rfl) hr zfS T.m5 T.f5.kp (T.b5) (zaf (zal 0 rfl zgw zay zaz) zao zab) zbW zab zak) (zbR _ _) za7)) (zat zmS
    zaO) zaO)
    (zat (zdF 0 rfl zgw zay zaz)
    zaO))
theorem zol (T : Txt K mg F FD TK CL) (hall : ∀ i, FnOk Pg w K mg base CX0 n (F i) (FD i) (zaw i) (spA K (zah U fuel n) i (zcv i))) (cdv : Value) (A : Around) (outer : List PySem.Env) (s : Shared) (H : Hp) (E : XK)
    (hr : Room n (A.deeper (envOfC "_law_cell" (zaa (top 46)) s.heap.objs.size (F 13) cdv))) :
    ISs (zbo CX0 Pg w K mg base ["_law_script", "_law_k"] "_law_cell" (zaa (top 46)) (F 13) cdv A outer s H E).nox (za4 (zah U fuel n) fuel znU) (zae (top 46)) :=
  (zat (zmT (zcY rfl (zmO hr.units) (zal 1 rfl zdM zc5 zc6) (zbt zeI zlt T.z_len PySem.boot_len (zaf (zal 0 rfl zbA zbc zbd) zao zab) ze2 ze1 zab zak) (zbe _)) (zat (zb2 (zhM hr.units (zal 0 rfl zbA zbc zbd) (zal 1 rfl zdM zc5 zc6) (fun _ _ => rfl)))
    zaO) zaO)
    (zat (zb2 zax)
    zaO))
theorem zom (T : Txt K mg F FD TK CL) (hall : ∀ i, FnOk Pg w K mg base CX0 n (F i) (FD i) (zaw i) (spA K (zah U fuel n) i (zcv i))) (cdv : Value) (A : Around) (outer : List PySem.Env) (s : Shared) (H : Hp) (E : XK)
    (hr : Room n (A.deeper (envOfC "shown_line" (zaa (top 35)) s.heap.objs.size (F 86) cdv))) :
    ISs (zbo CX0 Pg w K mg base ["floor", "row", "width"] "shown_line" (zaa (top 35)) (F 86) cdv A outer s H E).nox (za4 (zah U fuel n) fuel zrv) (zae (top 35)) :=
  (zat (zb2 (zlD zk3 (zh7 (zcr rfl (zcs (sc := zaa (top 35)) (N := ["floor", "row", "width"]) rfl rfl (by decide +kernel)) (zb3 zio T.z_range (zaf (zal 2 rfl zin zgt zgu) zao zab) zab) (.inl ⟨rfl, rfl⟩) (fun _ _ _ _ => (zqI (zcY rfl (zqG hr.units) (zcD (zaf (zal 2 rfl (zbl (by decide +kernel)) zij zik) (zaf (zal 0 rfl (zbm (by decide +kernel)) zfb zfc) zao zab) zab)) (zal 1 rfl (zbl (by decide +kernel)) zay zaz) (by with_unfolding_all rfl)) zhL zhL))) (by decide +kernel) zaB) zhL))
    zaO)
theorem zon (T : Txt K mg F FD TK CL) (hall : ∀ i, FnOk Pg w K mg base CX0 n (F i) (FD i) (zaw i) (spA K (zah U fuel n) i (zcv i))) (cdv : Value) (A : Around) (outer : List PySem.Env) (s : Shared) (H : Hp) (E : XK)
    (hr : Room n (A.deeper (envOfC "shown" (zaa (top 36)) s.heap.objs.size (F 87) cdv))) :
    ISs (zbo CX0 Pg w K mg base ["floor", "width"] "shown" (zaa (top 36)) (F 87) cdv A outer s H E).nox (za4 (zah U fuel n) fuel zrw) (zae (top 36)) :=
  (zat (zmR (zaS (zaC (hall 6) rfl) hr zfT T.m6 T.f6.kp (T.b6) (zaf (zal 0 rfl zdi zay zaz) zao zab) zbG zab zak))
    (zat (zhQ 1 zsA.nd rfl ziq (zlD zhI (zbt (zkV rfl) zlu T.z_max PyProof.Rows.boot_max (zaf (zcr rfl (zcs (sc := zaa (top 36)) (N := ["floor", "width"]) rfl rfl (by decide +kernel)) (zhS (zal 0 rfl zdi zay zaz)) (.inl ⟨rfl, rfl⟩) (fun _ _ _ _ => (zhM hr.units (zal 0 rfl (zbm (by decide +kernel)) zdb zdc) zax (fun _ _ => rfl)))) zao zaB) zoc zob zaB zak) zax))
    (zat (zb2 (zh7 (zcr rfl (zcs (sc := zaa (top 36)) (N := ["floor", "width"]) rfl rfl (by decide +kernel)) (zb3 zir T.z_range (zaf (zlD zhI (zhM hr.units (zhM hr.units (zal 0 rfl zdi zay zaz) (zr2 zj5 zax) (fun _ _ => rfl)) zax (fun _ _ => rfl)) zax) zao zbD) zbD) (.inl ⟨rfl, rfl⟩) (fun _ _ _ _ => (zaS (zaC (hall 86) rfl) hr (zhZ (by decide +kernel)) T.m86 T.f86.kp (T.b86) (zaf (zal 1 rfl (zbl (by decide +kernel)) zay zaz) (zaf (zal 0 rfl (zbm (by decide +kernel)) zij zik) (zaf (zal 2 rfl (zbl (by decide +kernel)) zgt zgu) zao zab) zab) zab) zeg zab (zaq zab (zaq zab zak))))) (by decide +kernel) zaB))
    zaO)))
theorem zoo (T : Txt K mg F FD TK CL) (hall : ∀ i, FnOk Pg w K mg base CX0 n (F i) (FD i) (zaw i) (spA K (zah U fuel n) i (zcv i))) (cdv : Value) (A : Around) (outer : List PySem.Env) (s : Shared) (H : Hp) (E : XK)
    (hr : Room n (A.deeper (envOfC "cells_in" (zaa (top 37)) s.heap.objs.size (F 98) cdv))) :
    ISs (zbo CX0 Pg w K mg base ["text", "cells", "row", "line", "column", "sign"] "cells_in" (zaa (top 37)) (F 98) cdv A outer s H E).nox (za4 (zah U fuel n) fuel zrx) (zae (top 37)) :=
  (zat (zhQ 1 zpT.nd rfl zis (zmQ zao))
    (zat (zkc 2 3 PassesOwn.never rfl zpT.nd rfl zlw rfl zjK zca T.z_enumerate (zk4 (zal 0 rfl zjG zee zef) (by decide +kernel)) zaP (zat (zkc 4 5 PassesOwn.never rfl zpT.nd rfl zgS rfl zjJ zca T.z_enumerate (zal 3 rfl zjH zln zlo) zab (zat (zmT (zcY rfl zmX (zal 5 rfl zjI zlp zlq) zhL (zbe _)) (zat (zqJ 1 rfl zfg (zcD (zaf (zal 2 rfl zlv zij zik) (zaf (zal 4 rfl zgR zfb zfc) zao zab) zab)) zas zb6 zb7)
    zaO) zaO)
    zaO))
    zaO))
    (zat (zb2 (zgd zga zit T.z_tuple PyProof.Rows.boot_tuple (zaf (zal 1 rfl zfg zb6 zb7) zao zab) zcM zcL zab zak))
    zaO)))
theorem zlz (T : Txt K mg F FD TK CL) (hall : ∀ i, FnOk Pg w K mg base CX0 n (F i) (FD i) (zaw i) (spA K (zah U fuel n) i (zcv i))) (cdv : Value) (A : Around) (outer : List PySem.Env) (s : Shared) (H : Hp) (E : XK)
    (hr : Room n (A.deeper (envOfC "law" (zaa (top 49)) s.heap.objs.size (F 102) cdv))) :
    ISs (zbo CX0 Pg w K mg base ["_law_script", "_law_way"] "law" (zaa (top 49)) (F 102) cdv A outer s H E).nox (za4 (zah U fuel n) fuel zih) (zae (top 49)) :=
  (zat (zhQ 1 zoj.nd rfl zen (zlD zmM (zaS (zaC (hall 13) rfl) hr zds T.m13 T.f13.kp (T.b13) (zaf (zal 0 rfl zcG zbc zbd) (zaf zax zao zac) zab) ze0 zab (zaq zac zak)) zax))
    (zat (zb2 (ziW (zeH hr.units) (zaS (zaC (hall 139) rfl) hr zcb T.m139 T.f139.kp (T.b139) (zaf (zal 1 rfl zem zaQ zaR) zao zab) zcF zab zak) (zcr rfl (zcs (sc := zaa (top 49)) (N := ["_law_script", "_law_way"]) rfl rfl (by decide +kernel)) (zb3 zgT T.z_range (zaf zax zao zac) zac) (.inl ⟨rfl, rfl⟩) (fun _ _ _ _ => (ziW (zeH hr.units) (zal 0 rfl (zbm (by decide +kernel)) zc5 zc6) (zal 2 rfl (zbl (by decide +kernel)) zaQ zaR) (zbe _)))) (zbe _)))
    zaO))
structure Xs (Pg : Program) (w : World) (K : PySem.W.Frag) (mg : Str → Option Value) (base : Heap) (F : Nat → Addr) (FD : Nat → FuncData) (CL : Nat → Addr) (fuel n : Nat) : Prop where
  x110 : FnOk Pg w K mg base (CX1 Pg w) n (F 110) (FD 110) (zaw 110) (spX K (clV CL) (zah U fuel n) 110)
  x112 : FnOk Pg w K mg base (CX1 Pg w) n (F 112) (FD 112) (zaw 112) (spX K (clV CL) (zah U fuel n) 112)
  x113 : FnOk Pg w K mg base (CX1 Pg w) n (F 113) (FD 113) (zaw 113) (spX K (clV CL) (zah U fuel n) 113)
  x117 : FnOk Pg w K mg base (CX1 Pg w) n (F 117) (FD 117) (zaw 117) (spX K (clV CL) (zah U fuel n) 117)
  x118 : FnOk Pg w K mg base (CX1 Pg w) n (F 118) (FD 118) (zaw 118) (spX K (clV CL) (zah U fuel n) 118)
  x119 : FnOk Pg w K mg base (CX1 Pg w) n (F 119) (FD 119) (zaw 119) (spX K (clV CL) (zah U fuel n) 119)
  x123 : FnOk Pg w K mg base (CX1 Pg w) n (F 123) (FD 123) (zaw 123) (spX K (clV CL) (zah U fuel n) 123)
  x133 : FnOk Pg w K mg base (CX1 Pg w) n (F 133) (FD 133) (zaw 133) (spX K (clV CL) (zah U fuel n) 133)
  x139 : FnOk Pg w K mg base (CX1 Pg w) n (F 139) (FD 139) (zaw 139) (spX K (clV CL) (zah U fuel n) 139)
  x140 : FnOk Pg w K mg base (CX1 Pg w) n (F 140) (FD 140) (zaw 140) (spX K (clV CL) (zah U fuel n) 140)
  x141 : FnOk Pg w K mg base (CX1 Pg w) n (F 141) (FD 141) (zaw 141) (spX K (clV CL) (zah U fuel n) 141)
theorem zjN (T : Txt K mg F FD TK CL) (hall : ∀ i, FnOk Pg w K mg base CX0 n (F i) (FD i) (zaw i) (spA K (zah U fuel n) i (zcv i))) (hx : Xs Pg w K mg base F FD CL fuel n) (cdv : Value) (A : Around) (outer : List PySem.Env) (s : Shared) (H : Hp) (E : XK)
    (hr : Room n (A.deeper (envOfC "can_reach" (zaa (top 33)) s.heap.objs.size (F 110) cdv))) :
    IXs (zbo (CX1 Pg w) Pg w K mg base ["leap", "down", "right", "divisor"] "can_reach" (zaa (top 33)) (F 110) cdv A outer s H E) (clV CL) E (za9 (zah U fuel n) fuel zjj) (zae (top 33)) :=
  (zaj (zbL (zaE (i := 112) hx.x112 zbT hr zcj T.m112 T.f112.kp T.b112 (zaf (zal 0 rfl ziu zc8 zc9) zao zab) zaV zab zak))
    (zaj (zbL (zaE (i := 113) hx.x113 zbT hr zbB T.m113 T.f113.kp T.b113 (zaf (zal 1 rfl ziv zll zlm) zao zab) zb8 zab zak))
    (zaj (zbL (zaE (i := 113) hx.x113 zbT hr zbB T.m113 T.f113.kp T.b113 (zaf (zal 2 rfl zgU zjw zjx) zao zab) zb8 zab zak))
    zd7)))
theorem zjO (T : Txt K mg F FD TK CL) (hall : ∀ i, FnOk Pg w K mg base CX0 n (F i) (FD i) (zaw i) (spA K (zah U fuel n) i (zcv i))) (hx : Xs Pg w K mg base F FD CL fuel n) (cdv : Value) (A : Around) (outer : List PySem.Env) (s : Shared) (H : Hp) (E : XK)
    (hr : Room n (A.deeper (envOfC "checked_leap" (zaa (top 19)) s.heap.objs.size (F 112) cdv))) :
    IXs (zbo (CX1 Pg w) Pg w K mg base ["leap"] "checked_leap" (zaa (top 19)) (F 112) cdv A outer s H E) (clV CL) E (za9 (zah U fuel n) fuel zjk) (zae (top 19)) :=
  (zaj (zgF (zcX (zcZ (zaS (zaC (hall 3) rfl) hr zfi T.m3 T.f3.kp (T.b3) (zaf (zal 0 rfl zfh zc8 zc9) zao zab) zgQ zab zak) (zbR _ _) za7)) (zaj (zbU (cl := clV CL) 2 rfl (fun _ _ _ _ _ _ _ _ I m q => zeN I m q) T.q2 rfl zfj T.y2 zbn (fun _ _ _ h => h _) zdK zac)
    zav) zav)
    (zaj (zkY (zdF 0 rfl zfh zc8 zc9))
    zav))
theorem zjP (T : Txt K mg F FD TK CL) (hall : ∀ i, FnOk Pg w K mg base CX0 n (F i) (FD i) (zaw i) (spA K (zah U fuel n) i (zcv i))) (hx : Xs Pg w K mg base F FD CL fuel n) (cdv : Value) (A : Around) (outer : List PySem.Env) (s : Shared) (H : Hp) (E : XK)
    (hr : Room n (A.deeper (envOfC "refuse_far" (zaa (top 32)) s.heap.objs.size (F 113) cdv))) :
    IXs (zbo (CX1 Pg w) Pg w K mg base ["number"] "refuse_far" (zaa (top 32)) (F 113) cdv A outer s H E) (clV CL) E (za9 (zah U fuel n) fuel zjl) (zae (top 32)) :=
  (zaj (zgF (zcX (zcZ (zaS (zaC (hall 0) rfl) hr zeo T.m0 T.f0.kp (T.b0) (zaf (zal 0 rfl zfU zil zim) (zaf (zr2 zj5 (zbQ zcc T.c3 zde)) (zaf (zbQ zcc T.c3 zde) zao zab) zcq) zab) zaZ zab (zaq zcq (zaq zab zak))) (zbR _ _) za7)) (zaj (zbU (cl := clV CL) 4 rfl (fun _ _ _ _ _ _ _ _ I m q => zeN I m q) T.q4 rfl zdt T.y4 zbn (fun _ _ _ h => h _) zbz zac)
    zav) zav)
    zav)
theorem zjQ (T : Txt K mg F FD TK CL) (hall : ∀ i, FnOk Pg w K mg base CX0 n (F i) (FD i) (zaw i) (spA K (zah U fuel n) i (zcv i))) (hx : Xs Pg w K mg base F FD CL fuel n) (cdv : Value) (A : Around) (outer : List PySem.Env) (s : Shared) (H : Hp) (E : XK)
    (hr : Room n (A.deeper (envOfC "cut_of" (zaa (top 44)) s.heap.objs.size (F 117) cdv))) :
    IXs (zbo (CX1 Pg w) Pg w K mg base ["floor", "leap", "spare", "cuts", "cut"] "cut_of" (zaa (top 44)) (F 117) cdv A outer s H E) (clV CL) E (za9 (zah U fuel n) fuel zjm) (zae (top 44)) :=
  (zaj (zbL (zaE (i := 118) hx.x118 zbT hr zfk T.m118 T.f118.kp T.b118 (zaf (zal 0 rfl zdN zay zaz) zao zab) zbG zab zak))
    (zaj (zbL (zaE (i := 112) hx.x112 zbT hr zck T.m112 T.f112.kp T.b112 (zaf (zal 1 rfl ziw zc8 zc9) zao zab) zaV zab zak))
    (zaj (zbL (zaE (i := 119) hx.x119 zbT hr zdj T.m119 T.f119.kp T.b119 (zaf (zal 0 rfl zdN zay zaz) (zaf (zbQ zcH T.c4 zdr) zao zab) zab) zed zab (zaq zab zak)))
    (zaj (zgF (zcX (zcZ (zaS (zaC (hall 0) rfl) hr zep T.m0 T.f0.kp (T.b0) (zaf (zal 2 rfl zgV zjy zjz) (zaf zax (zaf zax zao zac) zac) zab) zaZ zab (zaq zac (zaq zac zak))) (zbR _ _) za7)) (zaj (zbU (cl := clV CL) 4 rfl (fun _ _ _ _ _ _ _ _ I m q => zeN I m q) T.q4 rfl zdu T.y4 zbn (fun _ _ _ h => h _) zbz zac)
    zav) zav)
    zd7))))
theorem zjR (T : Txt K mg F FD TK CL) (hall : ∀ i, FnOk Pg w K mg base CX0 n (F i) (FD i) (zaw i) (spA K (zah U fuel n) i (zcv i))) (hx : Xs Pg w K mg base F FD CL fuel n) (cdv : Value) (A : Around) (outer : List PySem.Env) (s : Shared) (H : Hp) (E : XK)
    (hr : Room n (A.deeper (envOfC "checked" (zaa (top 18)) s.heap.objs.size (F 118) cdv))) :
    IXs (zbo (CX1 Pg w) Pg w K mg base ["floor"] "checked" (zaa (top 18)) (F 118) cdv A outer s H E) (clV CL) E (za9 (zah U fuel n) fuel zjn) (zae (top 18)) :=
  (zaj (zgF (zcX (zcZ (zaS (zaC (hall 5) rfl) hr zeq T.m5 T.f5.kp (T.b5) (zaf (zal 0 rfl zdO zay zaz) zao zab) zbW zab zak) (zbR _ _) za7)) (zaj (zbU (cl := clV CL) 1 rfl (fun _ _ _ _ _ _ _ _ I m q => zeN I m q) T.q1 rfl zer T.y1 zbn (fun _ _ _ h => h _) zc7 zac)
    zav) zav)
    (zaj (zkY (zdF 0 rfl zdO zay zaz))
    zav))
theorem zjS (T : Txt K mg F FD TK CL) (hall : ∀ i, FnOk Pg w K mg base CX0 n (F i) (FD i) (zaw i) (spA K (zah U fuel n) i (zcv i))) (hx : Xs Pg w K mg base F FD CL fuel n) (cdv : Value) (A : Around) (outer : List PySem.Env) (s : Shared) (H : Hp) (E : XK)
    (hr : Room n (A.deeper (envOfC "refuse_big" (zaa (top 41)) s.heap.objs.size (F 119) cdv))) :
    IXs (zbo (CX1 Pg w) Pg w K mg base ["floor", "most"] "refuse_big" (zaa (top 41)) (F 119) cdv A outer s H E) (clV CL) E (za9 (zah U fuel n) fuel zjo) (zae (top 41)) :=
  (zaj (zgF (zcY rfl zqH (zbt zeI zjL T.z_len PySem.boot_len (zaf (zal 0 rfl zgW zay zaz) zao zab) ze2 ze1 zab zak) (zal 1 rfl zfl zfP zfQ) (zbe _)) (zaj (zje (cl := clV CL) 5 1 rfl (fun _ _ _ _ _ _ _ _ I m q => zeN I m q) T.q5 rfl zfV T.y5 (zm8 rfl zfl zfP zfQ (by decide) (by decide)) ze5 zfM)
    zav) zav)
    zav)
theorem zjT (T : Txt K mg F FD TK CL) (hall : ∀ i, FnOk Pg w K mg base CX0 n (F i) (FD i) (zaw i) (spA K (zah U fuel n) i (zcv i))) (hx : Xs Pg w K mg base F FD CL fuel n) (cdv : Value) (A : Around) (outer : List PySem.Env) (s : Shared) (H : Hp) (E : XK)
    (hr : Room n (A.deeper (envOfC "near_cells" (zaa (top 29)) s.heap.objs.size (F 123) cdv))) :
    IXs (zbo (CX1 Pg w) Pg w K mg base ["floor", "leap", "cell"] "near_cells" (zaa (top 29)) (F 123) cdv A outer s H E) (clV CL) E (za9 (zah U fuel n) fuel zjp) (zae (top 29)) :=
  (zaj (zbL (zaE (i := 118) hx.x118 zbT hr zfm T.m118 T.f118.kp T.b118 (zaf (zal 0 rfl zdP zay zaz) zao zab) zbG zab zak))
    (zaj (zbL (zaE (i := 112) hx.x112 zbT hr zcl T.m112 T.f112.kp T.b112 (zaf (zal 1 rfl zix zc8 zc9) zao zab) zaV zab zak))
    (zaj (zbL (zaE (i := 133) hx.x133 zbT hr zcm T.m133 T.f133.kp T.b133 (zaf (zal 0 rfl zdP zay zaz) (zaf (zal 2 rfl ziy zdb zdc) zao zab) zab) zdd zab (zaq zab zak)))
    zd7)))
theorem zjU (T : Txt K mg F FD TK CL) (hall : ∀ i, FnOk Pg w K mg base CX0 n (F i) (FD i) (zaw i) (spA K (zah U fuel n) i (zcv i))) (hx : Xs Pg w K mg base F FD CL fuel n) (cdv : Value) (A : Around) (outer : List PySem.Env) (s : Shared) (H : Hp) (E : XK)
    (hr : Room n (A.deeper (envOfC "checked_cell" (zaa (top 20)) s.heap.objs.size (F 133) cdv))) :
    IXs (zbo (CX1 Pg w) Pg w K mg base ["floor", "cell"] "checked_cell" (zaa (top 20)) (F 133) cdv A outer s H E) (clV CL) E (za9 (zah U fuel n) fuel zjq) (zae (top 20)) :=
  (zaj (zgF (IW.t (zoA (zcX (zcZ (zaS (zaC (hall 2) rfl) hr zfn T.m2 T.f2.kp (T.b2) (zaf (zal 1 rfl zdk zdb zdc) zao zab) zdL zab zak) (zbR _ _) za7)) (ziY (zcY rfl (zmN hr.units) (zal 1 rfl zdk zdb zdc) (zal 0 rfl zgX zay zaz) (by with_unfolding_all rfl))))) (zaj (zbU (cl := clV CL) 3 rfl (fun _ _ _ _ _ _ _ _ I m q => zeN I m q) T.q3 rfl zfW T.y3 zbn (fun _ _ _ h => h _) ze4 zac)
    zav) zav)
    (zaj (zkY (zdF 1 rfl zdk zdb zdc))
    zav))
theorem zjV (T : Txt K mg F FD TK CL) (hall : ∀ i, FnOk Pg w K mg base CX0 n (F i) (FD i) (zaw i) (spA K (zah U fuel n) i (zcv i))) (hx : Xs Pg w K mg base F FD CL fuel n) (cdv : Value) (A : Around) (outer : List PySem.Env) (s : Shared) (H : Hp) (E : XK)
    (hr : Room n (A.deeper (envOfC "_law_kinds_of" (zaa (top 48)) s.heap.objs.size (F 139) cdv))) :
    IXs (zbo (CX1 Pg w) Pg w K mg base ["_law_way", "_law_some", "e"] "_law_kinds_of" (zaa (top 48)) (F 139) cdv A outer s H E) (clV CL) E (za9 (zah U fuel n) fuel zjr) (zae (top 48)) :=
  (zaj (zkY (zhQ 1 zlx.nd rfl zbN (zmQ zao)))
    (zaj (zm7 (cl := clV CL) 1 rfl rfl (fun pn xe E1 hP => (zaj (zbL (zaE (i := 140) hx.x140 hP hr zdv T.m140 T.f140.kp T.b140 (zaf (zal 0 rfl zes zaQ zaR) zao zab) ze3 zab zak))
    zav))
    (all_cons T.t1 (all_cons T.t2 (all_cons T.t3 (all_cons T.t4 (all_cons T.t5 (all_cons T.t6 zk1)))))) zdx T.y0 ze6 zlx.nd rfl zly rfl zbN zbM (.inr rfl) zcw zcx (by decide) rfl (by decide)
    (zbF (zch (cs := [1, 2, 3, 4, 5, 6]) 1 (by decide) (by decide) T.ap rfl zdQ zlT zlU zaH T.z_isinstance zet T.y1 zc7) (zbF (zch (cs := [1, 2, 3, 4, 5, 6]) 2 (by decide) (by decide) T.ap rfl zdQ zlT zlU zaH T.z_isinstance zfo T.y2 zdK) (zbF (zch (cs := [1, 2, 3, 4, 5, 6]) 3 (by decide) (by decide) T.ap rfl zdQ zlT zlU zaH T.z_isinstance zfX T.y3 ze4) (zbF (zch (cs := [1, 2, 3, 4, 5, 6]) 4 (by decide) (by decide) T.ap rfl zdQ zlT zlU zaH T.z_isinstance zdw T.y4 zbz) zid zaP) zaP) zaP) zaP)
    (zbF (zch (cs := [1, 2, 3, 4, 5, 6]) 5 (by decide) (by decide) T.ap rfl zdQ zlT zlU zaH T.z_isinstance zfY T.y5 ze5) (zbF (zch (cs := [1, 2, 3, 4, 5, 6]) 6 (by decide) (by decide) T.ap rfl zdQ zlT zlU zaH T.z_isinstance zfp T.y6 zci) zid zaP) zaP))
    (zaj (zkY (zdF 1 rfl zbM zcw zcx))
    zav)))
theorem zjW (T : Txt K mg F FD TK CL) (hall : ∀ i, FnOk Pg w K mg base CX0 n (F i) (FD i) (zaw i) (spA K (zah U fuel n) i (zcv i))) (hx : Xs Pg w K mg base F FD CL fuel n) (cdv : Value) (A : Around) (outer : List PySem.Env) (s : Shared) (H : Hp) (E : XK)
    (hr : Room n (A.deeper (envOfC "_law_deed" (zaa (top 47)) s.heap.objs.size (F 140) cdv))) :
    IXs (zbo (CX1 Pg w) Pg w K mg base ["_law_way"] "_law_deed" (zaa (top 47)) (F 140) cdv A outer s H E) (clV CL) E (za9 (zah U fuel n) fuel zjs) (zae (top 47)) :=
  (zaj (zgF (zcY rfl (zeH hr.units) (zal 0 rfl zaW zaQ zaR) zax (zbe _)) (zaj (zgG (zaE (i := 118) hx.x118 zbT hr zfq T.m118 T.f118.kp T.b118 (zaf (zcD zao) zao zas) zbG zas zak))
    zav) zav)
    (zaj (zgF (zcY rfl (zeH hr.units) (zal 0 rfl zaW zaQ zaR) zax (zbe _)) (zaj (zgG (zaE (i := 112) hx.x112 zbT hr zcn T.m112 T.f112.kp T.b112 (zaf (zcD (zaf zax (zaf zax zao zac) zac)) zao zas) zaV zas zak))
    zav) zav)
    (zaj (zgF (zcY rfl (zeH hr.units) (zal 0 rfl zaW zaQ zaR) zax (zbe _)) (zaj (zgG (zaE (i := 123) hx.x123 zbT hr zdl T.m123 T.f123.kp T.b123 (zaf (zcD (zaf (zcD (zaf zax (zaf zax zao zac) zac)) zao zas)) (zaf (zcD (zaf zax (zaf zax zao zac) zac)) (zaf (zcD (zaf zax (zaf zax zao zac) zac)) zao zas) zas) zas) zeb zas (zaq zas (zaq zas zak))))
    zav) zav)
    (zaj (zgF (zcY rfl (zeH hr.units) (zal 0 rfl zaW zaQ zaR) zax (zbe _)) (zaj (zgG (zaE (i := 110) hx.x110 zbT hr zdy T.m110 T.f110.kp T.b110 (zaf (zcD (zaf zax (zaf zax zao zac) zac)) (zaf zax (zaf zax zao zac) zac) zas) ze7 zas (zaq zac (zaq zac zak))))
    zav) zav)
    (zaj (zgF (zcY rfl (zeH hr.units) (zal 0 rfl zaW zaQ zaR) zax (zbe _)) (zaj (zgG (zaE (i := 117) hx.x117 zbT hr zfZ T.m117 T.f117.kp T.b117 (zaf (zgd zga zgY T.z_tuple PyProof.Rows.boot_tuple (zaf (zlD zhI (zcr rfl (zcs (sc := zaa (top 47)) (N := ["_law_way"]) rfl rfl (by decide +kernel)) (zb3 zdR T.z_range (zaf zax zao zac) zac) (.inl ⟨rfl, rfl⟩) (fun _ _ _ _ => (zcD (zaf zax (zaf (zal 0 rfl (zbm (by decide +kernel)) ze8 ze9) zao zab) zac)))) (zcr rfl (zcs (sc := zaa (top 47)) (N := ["_law_way"]) rfl rfl (by decide +kernel)) (zb3 zdR T.z_range (zaf zax zao zac) zac) (.inl ⟨rfl, rfl⟩) (fun _ _ _ _ => (zcD (zaf zax (zaf (zal 0 rfl (zbm (by decide +kernel)) ze8 ze9) zao zab) zac))))) zao zbD) zcM zcL zbD zak) (zaf (zcD (zaf zax (zaf zax zao zac) zac)) (zaf zax zao zac) zas) zaP) zii zaP (zaq zas (zaq zac zak))))
    zav) zav)
    (zaj (zgG (zaE (i := 141) hx.x141 zbT hr ziz T.m141 T.f141.kp T.b141 (zaf zhL zao zac) zlg zac zak))
    zav))))))
theorem zjX (T : Txt K mg F FD TK CL) (hall : ∀ i, FnOk Pg w K mg base CX0 n (F i) (FD i) (zaw i) (spA K (zah U fuel n) i (zcv i))) (hx : Xs Pg w K mg base F FD CL fuel n) (cdv : Value) (A : Around) (outer : List PySem.Env) (s : Shared) (H : Hp) (E : XK)
    (hr : Room n (A.deeper (envOfC "read" (zaa (top 38)) s.heap.objs.size (F 141) cdv))) :
    IXs (zbo (CX1 Pg w) Pg w K mg base ["text", "floor"] "read" (zaa (top 38)) (F 141) cdv A outer s H E) (clV CL) E (za9 (zah U fuel n) fuel zjt) (zae (top 38)) :=
  (zaj (zgF (zcX (zcZ (zeM (t := .str) zdn T.z_isinstance zjM T.z_str PyProof.Rows.boot_str (zal 0 rfl zdm zee zef) zoa zn9 zab zab (zaq zab zak)) (zd4 _ _) za7)) (zaj (zbU (cl := clV CL) 6 rfl (fun _ _ _ _ _ _ _ _ I m q => zeN I m q) T.q6 rfl zcB T.y6 zbn (fun _ _ _ h => h _) zci zac)
    zav) zav)
    (zaj (zkY (zhQ 1 zok.nd rfl zgZ (zaS (zaC (hall 98) rfl) hr zeu T.m98 T.f98.kp (T.b98) (zaf (zal 0 rfl zdm zee zef) zao zab) zfR zab zak)))
    (zaj (zgF (IW.t (zoA (zcX (zcZ (zaS (zaC (hall 5) rfl) hr zev T.m5 T.f5.kp (T.b5) (zaf (zal 1 rfl zco zay zaz) zao zab) zbW zab zak) (zbR _ _) za7)) (ziY (zcY rfl zmY (zaS (zaC (hall 87) rfl) hr zg0 T.m87 T.f87.kp (T.b87) (zaf (zal 1 rfl zco zay zaz) zao zab) zjA zab zak) (zal 0 rfl zdm zee zef) (zbe _))))) (zaj (zbU (cl := clV CL) 6 rfl (fun _ _ _ _ _ _ _ _ I m q => zeN I m q) T.q6 rfl zcB T.y6 zbn (fun _ _ _ h => h _) zci zac)
    zav) zav)
    (zaj (zkY (zdF 1 rfl zco zay zaz))
    zav))))
theorem zcI (T : Txt K mg F FD TK CL) (hall : ∀ i, FnOk Pg w K mg base CX0 n (F i) (FD i) (zaw i) (spA K (zah U fuel n) i (zcv i))) (hx : Xs Pg w K mg base F FD CL fuel n) : Xs Pg w K mg base F FD CL fuel (n + 1) where
  x110 := zbx (F0 := ⟨3, 4, .nil, [], some zjj⟩) T.f110 zry rfl rfl rfl rfl (zjN T hall hx)
  x112 := zbx (F0 := ⟨1, 1, .nil, [], some zjk⟩) T.f112 zrz rfl rfl rfl rfl (zjO T hall hx)
  x113 := zbx (F0 := ⟨1, 1, .nil, [], some zjl⟩) T.f113 zrA rfl rfl rfl rfl (zjP T hall hx)
  x117 := zbx (F0 := ⟨3, 5, .nil, [], some zjm⟩) T.f117 zrB rfl rfl rfl rfl (zjQ T hall hx)
  x118 := zbx (F0 := ⟨1, 1, .nil, [], some zjn⟩) T.f118 zrC rfl rfl rfl rfl (zjR T hall hx)
  x119 := zbx (F0 := ⟨2, 2, .nil, [], some zjo⟩) T.f119 zrD rfl rfl rfl rfl (zjS T hall hx)
  x123 := zbx (F0 := ⟨3, 3, .nil, [], some zjp⟩) T.f123 zrE rfl rfl rfl rfl (zjT T hall hx)
  x133 := zbx (F0 := ⟨2, 2, .nil, [], some zjq⟩) T.f133 zrF rfl rfl rfl rfl (zjU T hall hx)
  x139 := zbx (F0 := ⟨1, 3, .nil, [], some zjr⟩) T.f139 zlx rfl rfl rfl rfl (zjV T hall hx)
  x140 := zbx (F0 := ⟨1, 1, .nil, [], some zjs⟩) T.f140 zrG rfl rfl rfl rfl (zjW T hall hx)
  x141 := zbx (F0 := ⟨1, 2, .nil, [], some zjt⟩) T.f141 zok rfl rfl rfl rfl (zjX T hall hx)
theorem zam (T : Txt K mg F FD TK CL) : ∀ n, (∀ i, FnOk Pg w K mg base CX0 n (F i) (FD i) (zaw i) (spA K (zah U fuel n) i (zcv i))) ∧ Xs Pg w K mg base F FD CL fuel n
  | 0 => ⟨fun _ => zkU, ⟨zaU, zaU, zaU, zaU, zaU, zaU, zaU, zaU, zaU, zaU, zaU⟩⟩
  | n + 1 => ⟨fun i => match i with
    | 0 => zcE (F0 := ⟨3, 3, ir0, [], none⟩) T.f0 sc0 rfl rfl rfl rfl (by decide) rfl (zrH T (zam T n).1)
    | 1 => zcE (F0 := ⟨1, 1, ir1, [], none⟩) T.f1 sc1 rfl rfl rfl rfl (by decide) rfl (zrI T (zam T n).1)
    | 2 => zcE (F0 := ⟨1, 1, ir2, [], none⟩) T.f2 sc2 rfl rfl rfl rfl (by decide) rfl (zrJ T (zam T n).1)
    | 3 => zcE (F0 := ⟨1, 1, ir3, [], none⟩) T.f3 sc3 rfl rfl rfl rfl (by decide) rfl (zrK T (zam T n).1)
    | 4 => zcE (F0 := ⟨1, 1, ir4, [], none⟩) T.f4 sc4 rfl rfl rfl rfl (by decide) rfl (zrL T (zam T n).1)
    | 5 => zcE (F0 := ⟨1, 1, ir5, [], none⟩) T.f5 sc5 rfl rfl rfl rfl (by decide) rfl (zrM T (zam T n).1)
    | 6 => zcE (F0 := ⟨1, 1, ir6, [], none⟩) T.f6 sc6 rfl rfl rfl rfl (by decide) rfl (zrN T (zam T n).1)
    | 7 => zad rfl
    | 8 => zad rfl
    | 9 => zad rfl
    | 10 => zad rfl
    | 11 => zad rfl
    | 12 => zad rfl
    | 13 => zcE (F0 := ⟨2, 2, znU, [], none⟩) T.f13 zs2 rfl rfl rfl rfl (by decide) rfl (zol T (zam T n).1)
    | 14 => zad rfl
    | 15 => zad rfl
    | 16 => zad rfl
    | 17 => zad rfl
    | 18 => zad rfl
    | 19 => zad rfl
    | 20 => zad rfl
    | 21 => zad rfl
    | 22 => zad rfl
    | 23 => zad rfl
    | 24 => zad rfl
    | 25 => zad rfl
    | 26 => zad rfl
    | 27 => zad rfl
    | 28 => zad rfl
    | 29 => zad rfl
    | 30 => zad rfl
    | 31 => zad rfl
    | 32 => zad rfl
    | 33 => zad rfl
    | 34 => zad rfl
    | 35 => zad rfl
    | 36 => zad rfl
    | 37 => zad rfl
    | 38 => zad rfl
    | 39 => zad rfl
    | 40 => zad rfl
    | 41 => zad rfl
    | 42 => zad rfl
    | 43 => zad rfl
    | 44 => zad rfl
    | 45 => zad rfl
    | 46 => zad rfl
    | 47 => zad rfl
    | 48 => zad rfl
    | 49 => zad rfl
    | 50 => zad rfl
    | 51 => zad rfl
    | 52 => zad rfl
    | 53 => zad rfl
    | 54 => zad rfl
    | 55 => zad rfl
    | 56 => zad rfl
    | 57 => zad rfl
    | 58 => zad rfl
    | 59 => zad rfl
    | 60 => zad rfl
    | 61 => zad rfl
    | 62 => zad rfl
    | 63 => zad rfl
    | 64 => zad rfl
    | 65 => zad rfl
    | 66 => zad rfl
    | 67 => zad rfl
    | 68 => zad rfl
    | 69 => zad rfl
    | 70 => zad rfl
    | 71 => zad rfl
    | 72 => zad rfl
    | 73 => zad rfl
    | 74 => zad rfl
    | 75 => zad rfl
    | 76 => zad rfl
    | 77 => zad rfl
    | 78 => zad rfl
    | 79 => zad rfl
    | 80 => zad rfl
    | 81 => zad rfl
    | 82 => zad rfl
    | 83 => zad rfl
    | 84 => zad rfl
    | 85 => zad rfl
    | 86 => zcE (F0 := ⟨3, 3, zrv, [], none⟩) T.f86 zs3 rfl rfl rfl rfl (by decide) rfl (zom T (zam T n).1)
    | 87 => zcE (F0 := ⟨1, 2, zrw, [], none⟩) T.f87 zsA rfl rfl rfl rfl (by decide) rfl (zon T (zam T n).1)
    | 88 => zad rfl
    | 89 => zad rfl
    | 90 => zad rfl
    | 91 => zad rfl
    | 92 => zad rfl
    | 93 => zad rfl
    | 94 => zad rfl
    | 95 => zad rfl
    | 96 => zad rfl
    | 97 => zad rfl
    | 98 => zcE (F0 := ⟨1, 6, zrx, [], none⟩) T.f98 zpT rfl rfl rfl rfl (by decide) rfl (zoo T (zam T n).1)
    | 99 => zad rfl
    | 100 => zad rfl
    | 101 => zad rfl
    | 102 => zcE (F0 := ⟨1, 2, zih, [], none⟩) T.f102 zoj rfl rfl rfl rfl (by decide) rfl (zlz T (zam T n).1)
    | 103 => zad rfl
    | 104 => zad rfl
    | 105 => zad rfl
    | 106 => zad rfl
    | 107 => zad rfl
    | 108 => zad rfl
    | 109 => zad rfl
    | 110 => za8 (F0 := ⟨3, 4, .nil, [], some zjj⟩) (zcI T (zam T n).1 (zam T n).2).x110 rfl rfl
    | 111 => zad rfl
    | 112 => za8 (F0 := ⟨1, 1, .nil, [], some zjk⟩) (zcI T (zam T n).1 (zam T n).2).x112 rfl rfl
    | 113 => za8 (F0 := ⟨1, 1, .nil, [], some zjl⟩) (zcI T (zam T n).1 (zam T n).2).x113 rfl rfl
    | 114 => zad rfl
    | 115 => zad rfl
    | 116 => zad rfl
    | 117 => za8 (F0 := ⟨3, 5, .nil, [], some zjm⟩) (zcI T (zam T n).1 (zam T n).2).x117 rfl rfl
    | 118 => za8 (F0 := ⟨1, 1, .nil, [], some zjn⟩) (zcI T (zam T n).1 (zam T n).2).x118 rfl rfl
    | 119 => za8 (F0 := ⟨2, 2, .nil, [], some zjo⟩) (zcI T (zam T n).1 (zam T n).2).x119 rfl rfl
    | 120 => zad rfl
    | 121 => zad rfl
    | 122 => zad rfl
    | 123 => za8 (F0 := ⟨3, 3, .nil, [], some zjp⟩) (zcI T (zam T n).1 (zam T n).2).x123 rfl rfl
    | 124 => zad rfl
    | 125 => zad rfl
    | 126 => zad rfl
    | 127 => zad rfl
    | 128 => zad rfl
    | 129 => zad rfl
    | 130 => zad rfl
    | 131 => zad rfl
    | 132 => zad rfl
    | 133 => za8 (F0 := ⟨2, 2, .nil, [], some zjq⟩) (zcI T (zam T n).1 (zam T n).2).x133 rfl rfl
    | 134 => zad rfl
    | 135 => zad rfl
    | 136 => zad rfl
    | 137 => zad rfl
    | 138 => zad rfl
    | 139 => za8 (F0 := ⟨1, 3, .nil, [], some zjr⟩) (zcI T (zam T n).1 (zam T n).2).x139 rfl rfl
    | 140 => za8 (F0 := ⟨1, 1, .nil, [], some zjs⟩) (zcI T (zam T n).1 (zam T n).2).x140 rfl rfl
    | 141 => za8 (F0 := ⟨1, 2, .nil, [], some zjt⟩) (zcI T (zam T n).1 (zam T n).2).x141 rfl rfl
    | _ + 142 => zad rfl, zcI T (zam T n).1 (zam T n).2⟩
theorem zop (T : Txt K mg F FD TK CL) (n i : Nat) : FnOk Pg w K mg base CX0 n (F i) (FD i) (zaw i) (spA K (zah U fuel n) i (zcv i)) := (zam T n).1 i
theorem zoq {h : Heap} (X : K.In h) (G : h.Ns mainGlobals mg) {f0 f1 f2 f3 f4 f5 f6 f13 f86 f87 f98 f102 f110 f112 f113 f117 f119 f123 f133 f139 f140 f141 : Addr} {od0 od1 od2 od3 od4 od5 od6 od13 od86 od87 od98 od102 od110 od112 od113 od117 od119 od123 od133 od139 od140 od141 an0 an1 an2 an3 an4 an5 an6 an13 an86 an87 an98 an102 an110 an112 an113 an117 an119 an123 an133 an139 an140 an141 : Option Addr} {sl0 sl1 sl2 sl3 sl4 sl5 sl6 sl13 sl86 sl87 sl98 sl102 sl110 sl112 sl113 sl117 sl119 sl123 sl133 sl139 sl140 sl141 : Array (Option Value)} {oc0 oc1 oc2 oc3 oc4 oc5 oc6 oc13 oc86 oc87 oc98 oc102 oc110 oc112 oc113 oc117 oc119 oc123 oc133 oc139 oc140 oc141 kV0 kV1 kV2 kV3 kV4 kV5 kV6 kV13 kV86 kV87 kV98 kV102 kV110 kV112 kV113 kV117 kV119 kV123 kV133 kV139 kV140 kV141 dc0 dc1 dc2 dc3 dc4 dc5 dc6 dc13 dc86 dc87 dc98 dc102 dc110 dc112 dc113 dc117 dc119 dc123 dc133 dc139 dc140 dc141 pm0 pm1 pm2 pm3 pm4 pm5 pm6 pm13 pm86 pm87 pm98 pm102 pm110 pm112 pm113 pm117 pm119 pm123 pm133 pm139 pm140 pm141 cd0 cd1 cd2 cd3 cd4 cd5 cd6 cd13 cd86 cd87 cd98 cd102 cd110 cd112 cd113 cd117 cd119 cd123 cd133 cd139 cd140 cd141 ct0 ct1 ct2 ct3 ct4 ct5 ct6 ct13 ct86 ct87 ct98 ct102 ct110 ct112 ct113 ct117 ct119 ct123 ct133 ct139 ct140 ct141 : Value} {t0 t1 t2 t3 t4 : Tok} {C0 C1 C2 C3 C4 C5 C6 : Addr}
    (a0 : PySem.W.nsIn K mainGlobals "is_whole" = some (some (.ref f0))) (l0 : K.lookup f0 = some ⟨oc0, od0, .func (PySem.W.fnOf "is_whole" "is_whole" (zag (top 12)) (zae (top 12)) (zaa (top 12)) .none kV0 dc0 pm0 an0 cd0 ct0), sl0⟩) (e0 : PySem.W.codeIn K cd0 "is_whole" = true) (k0 : PySem.W.keepIn K (.ref f0) = true)
    (a1 : PySem.W.nsIn K mainGlobals "is_couple" = some (some (.ref f1))) (l1 : K.lookup f1 = some ⟨oc1, od1, .func (PySem.W.fnOf "is_couple" "is_couple" (zag (top 13)) (zae (top 13)) (zaa (top 13)) .none kV1 dc1 pm1 an1 cd1 ct1), sl1⟩) (e1 : PySem.W.codeIn K cd1 "is_couple" = true) (k1 : PySem.W.keepIn K (.ref f1) = true)
    (a2 : PySem.W.nsIn K mainGlobals "is_cell" = some (some (.ref f2))) (l2 : K.lookup f2 = some ⟨oc2, od2, .func (PySem.W.fnOf "is_cell" "is_cell" (zag (top 14)) (zae (top 14)) (zaa (top 14)) .none kV2 dc2 pm2 an2 cd2 ct2), sl2⟩) (e2 : PySem.W.codeIn K cd2 "is_cell" = true) (k2 : PySem.W.keepIn K (.ref f2) = true)
    (a3 : PySem.W.nsIn K mainGlobals "is_leap" = some (some (.ref f3))) (l3 : K.lookup f3 = some ⟨oc3, od3, .func (PySem.W.fnOf "is_leap" "is_leap" (zag (top 15)) (zae (top 15)) (zaa (top 15)) .none kV3 dc3 pm3 an3 cd3 ct3), sl3⟩) (e3 : PySem.W.codeIn K cd3 "is_leap" = true) (k3 : PySem.W.keepIn K (.ref f3) = true)
    (a4 : PySem.W.nsIn K mainGlobals "is_rising" = some (some (.ref f4))) (l4 : K.lookup f4 = some ⟨oc4, od4, .func (PySem.W.fnOf "is_rising" "is_rising" (zag (top 16)) (zae (top 16)) (zaa (top 16)) .none kV4 dc4 pm4 an4 cd4 ct4), sl4⟩) (e4 : PySem.W.codeIn K cd4 "is_rising" = true) (k4 : PySem.W.keepIn K (.ref f4) = true)
    (a5 : PySem.W.nsIn K mainGlobals "is_floor" = some (some (.ref f5))) (l5 : K.lookup f5 = some ⟨oc5, od5, .func (PySem.W.fnOf "is_floor" "is_floor" (zag (top 17)) (zae (top 17)) (zaa (top 17)) .none kV5 dc5 pm5 an5 cd5 ct5), sl5⟩) (e5 : PySem.W.codeIn K cd5 "is_floor" = true) (k5 : PySem.W.keepIn K (.ref f5) = true)
    (a6 : PySem.W.nsIn K mainGlobals "checked" = some (some (.ref f6))) (l6 : K.lookup f6 = some ⟨oc6, od6, .func (PySem.W.fnOf "checked" "checked" (zag (top 18)) (zae (top 18)) (zaa (top 18)) .none kV6 dc6 pm6 an6 cd6 ct6), sl6⟩) (e6 : PySem.W.codeIn K cd6 "checked" = true) (k6 : PySem.W.keepIn K (.ref f6) = true)
    (a13 : PySem.W.nsIn K mainGlobals "_law_cell" = some (some (.ref f13))) (l13 : K.lookup f13 = some ⟨oc13, od13, .func (PySem.W.fnOf "_law_cell" "_law_cell" (zag (top 46)) (zae (top 46)) (zaa (top 46)) .none kV13 dc13 pm13 an13 cd13 ct13), sl13⟩) (e13 : PySem.W.codeIn K cd13 "_law_cell" = true) (k13 : PySem.W.keepIn K (.ref f13) = true)
    (a86 : PySem.W.nsIn K mainGlobals "shown_line" = some (some (.ref f86))) (l86 : K.lookup f86 = some ⟨oc86, od86, .func (PySem.W.fnOf "shown_line" "shown_line" (zag (top 35)) (zae (top 35)) (zaa (top 35)) .none kV86 dc86 pm86 an86 cd86 ct86), sl86⟩) (e86 : PySem.W.codeIn K cd86 "shown_line" = true) (k86 : PySem.W.keepIn K (.ref f86) = true)
    (a87 : PySem.W.nsIn K mainGlobals "shown" = some (some (.ref f87))) (l87 : K.lookup f87 = some ⟨oc87, od87, .func (PySem.W.fnOf "shown" "shown" (zag (top 36)) (zae (top 36)) (zaa (top 36)) .none kV87 dc87 pm87 an87 cd87 ct87), sl87⟩) (e87 : PySem.W.codeIn K cd87 "shown" = true) (k87 : PySem.W.keepIn K (.ref f87) = true)
    (a98 : PySem.W.nsIn K mainGlobals "cells_in" = some (some (.ref f98))) (l98 : K.lookup f98 = some ⟨oc98, od98, .func (PySem.W.fnOf "cells_in" "cells_in" (zag (top 37)) (zae (top 37)) (zaa (top 37)) .none kV98 dc98 pm98 an98 cd98 ct98), sl98⟩) (e98 : PySem.W.codeIn K cd98 "cells_in" = true) (k98 : PySem.W.keepIn K (.ref f98) = true)
    (a102 : PySem.W.nsIn K mainGlobals "law" = some (some (.ref f102))) (l102 : K.lookup f102 = some ⟨oc102, od102, .func (PySem.W.fnOf "law" "law" (zag (top 49)) (zae (top 49)) (zaa (top 49)) .none kV102 dc102 pm102 an102 cd102 ct102), sl102⟩) (e102 : PySem.W.codeIn K cd102 "law" = true) (k102 : PySem.W.keepIn K (.ref f102) = true)
    (a110 : PySem.W.nsIn K mainGlobals "can_reach" = some (some (.ref f110))) (l110 : K.lookup f110 = some ⟨oc110, od110, .func (PySem.W.fnOf "can_reach" "can_reach" (zag (top 33)) (zae (top 33)) (zaa (top 33)) .none kV110 dc110 pm110 an110 cd110 ct110), sl110⟩) (e110 : PySem.W.codeIn K cd110 "can_reach" = true) (k110 : PySem.W.keepIn K (.ref f110) = true)
    (a112 : PySem.W.nsIn K mainGlobals "checked_leap" = some (some (.ref f112))) (l112 : K.lookup f112 = some ⟨oc112, od112, .func (PySem.W.fnOf "checked_leap" "checked_leap" (zag (top 19)) (zae (top 19)) (zaa (top 19)) .none kV112 dc112 pm112 an112 cd112 ct112), sl112⟩) (e112 : PySem.W.codeIn K cd112 "checked_leap" = true) (k112 : PySem.W.keepIn K (.ref f112) = true)
    (a113 : PySem.W.nsIn K mainGlobals "refuse_far" = some (some (.ref f113))) (l113 : K.lookup f113 = some ⟨oc113, od113, .func (PySem.W.fnOf "refuse_far" "refuse_far" (zag (top 32)) (zae (top 32)) (zaa (top 32)) .none kV113 dc113 pm113 an113 cd113 ct113), sl113⟩) (e113 : PySem.W.codeIn K cd113 "refuse_far" = true) (k113 : PySem.W.keepIn K (.ref f113) = true)
    (a117 : PySem.W.nsIn K mainGlobals "cut_of" = some (some (.ref f117))) (l117 : K.lookup f117 = some ⟨oc117, od117, .func (PySem.W.fnOf "cut_of" "cut_of" (zag (top 44)) (zae (top 44)) (zaa (top 44)) .none kV117 dc117 pm117 an117 cd117 ct117), sl117⟩) (e117 : PySem.W.codeIn K cd117 "cut_of" = true) (k117 : PySem.W.keepIn K (.ref f117) = true)
    (a119 : PySem.W.nsIn K mainGlobals "refuse_big" = some (some (.ref f119))) (l119 : K.lookup f119 = some ⟨oc119, od119, .func (PySem.W.fnOf "refuse_big" "refuse_big" (zag (top 41)) (zae (top 41)) (zaa (top 41)) .none kV119 dc119 pm119 an119 cd119 ct119), sl119⟩) (e119 : PySem.W.codeIn K cd119 "refuse_big" = true) (k119 : PySem.W.keepIn K (.ref f119) = true)
    (a123 : PySem.W.nsIn K mainGlobals "near_cells" = some (some (.ref f123))) (l123 : K.lookup f123 = some ⟨oc123, od123, .func (PySem.W.fnOf "near_cells" "near_cells" (zag (top 29)) (zae (top 29)) (zaa (top 29)) .none kV123 dc123 pm123 an123 cd123 ct123), sl123⟩) (e123 : PySem.W.codeIn K cd123 "near_cells" = true) (k123 : PySem.W.keepIn K (.ref f123) = true)
    (a133 : PySem.W.nsIn K mainGlobals "checked_cell" = some (some (.ref f133))) (l133 : K.lookup f133 = some ⟨oc133, od133, .func (PySem.W.fnOf "checked_cell" "checked_cell" (zag (top 20)) (zae (top 20)) (zaa (top 20)) .none kV133 dc133 pm133 an133 cd133 ct133), sl133⟩) (e133 : PySem.W.codeIn K cd133 "checked_cell" = true) (k133 : PySem.W.keepIn K (.ref f133) = true)
    (a139 : PySem.W.nsIn K mainGlobals "_law_kinds_of" = some (some (.ref f139))) (l139 : K.lookup f139 = some ⟨oc139, od139, .func (PySem.W.fnOf "_law_kinds_of" "_law_kinds_of" (zag (top 48)) (zae (top 48)) (zaa (top 48)) .none kV139 dc139 pm139 an139 cd139 ct139), sl139⟩) (e139 : PySem.W.codeIn K cd139 "_law_kinds_of" = true) (k139 : PySem.W.keepIn K (.ref f139) = true)
    (a140 : PySem.W.nsIn K mainGlobals "_law_deed" = some (some (.ref f140))) (l140 : K.lookup f140 = some ⟨oc140, od140, .func (PySem.W.fnOf "_law_deed" "_law_deed" (zag (top 47)) (zae (top 47)) (zaa (top 47)) .none kV140 dc140 pm140 an140 cd140 ct140), sl140⟩) (e140 : PySem.W.codeIn K cd140 "_law_deed" = true) (k140 : PySem.W.keepIn K (.ref f140) = true)
    (a141 : PySem.W.nsIn K mainGlobals "read" = some (some (.ref f141))) (l141 : K.lookup f141 = some ⟨oc141, od141, .func (PySem.W.fnOf "read" "read" (zag (top 38)) (zae (top 38)) (zaa (top 38)) .none kV141 dc141 pm141 an141 cd141 ct141), sl141⟩) (e141 : PySem.W.codeIn K cd141 "read" = true) (k141 : PySem.W.keepIn K (.ref f141) = true)
    (y0 : PySem.W.nsIn K mainGlobals "LeapError" = some (some (.ref C0)))
    (y1 : PySem.W.nsIn K mainGlobals "BadFloor" = some (some (.ref C1)))
    (y2 : PySem.W.nsIn K mainGlobals "BadLeap" = some (some (.ref C2)))
    (y3 : PySem.W.nsIn K mainGlobals "NoCell" = some (some (.ref C3)))
    (y4 : PySem.W.nsIn K mainGlobals "BadNumber" = some (some (.ref C4)))
    (y5 : PySem.W.nsIn K mainGlobals "TooBig" = some (some (.ref C5)))
    (y6 : PySem.W.nsIn K mainGlobals "BadText" = some (some (.ref C6)))
    (xq1 : PySem.W.excIn K C1 [.type "ValueError", .type "Exception", .type "BaseException", .type "object"] "ValueError.__new__" = true) (xt1 : PySem.W.exmOne K (.ref C1) (.ref C0) = some true) (xv1 : PySem.W.kitOne K (.ref C1) (.type "ValueError") = some true)
    (xq2 : PySem.W.excIn K C2 [.type "ValueError", .type "Exception", .type "BaseException", .type "object"] "ValueError.__new__" = true) (xt2 : PySem.W.exmOne K (.ref C2) (.ref C0) = some true) (xv2 : PySem.W.kitOne K (.ref C2) (.type "ValueError") = some true)
    (xq3 : PySem.W.excIn K C3 [.type "ValueError", .type "Exception", .type "BaseException", .type "object"] "ValueError.__new__" = true) (xt3 : PySem.W.exmOne K (.ref C3) (.ref C0) = some true) (xv3 : PySem.W.kitOne K (.ref C3) (.type "ValueError") = some true)
    (xq4 : PySem.W.excIn K C4 [.type "ValueError", .type "Exception", .type "BaseException", .type "object"] "ValueError.__new__" = true) (xt4 : PySem.W.exmOne K (.ref C4) (.ref C0) = some true) (xv4 : PySem.W.kitOne K (.ref C4) (.type "ValueError") = some true)
    (xq5 : PySem.W.excIn K C5 [.type "ValueError", .type "Exception", .type "BaseException", .type "object"] "ValueError.__new__" = true) (xt5 : PySem.W.exmOne K (.ref C5) (.ref C0) = some true) (xv5 : PySem.W.kitOne K (.ref C5) (.type "ValueError") = some true)
    (xq6 : PySem.W.excIn K C6 [.type "ValueError", .type "Exception", .type "BaseException", .type "object"] "ValueError.__new__" = true) (xt6 : PySem.W.exmOne K (.ref C6) (.ref C0) = some true) (xv6 : PySem.W.kitOne K (.ref C6) (.type "ValueError") = some true)
    (xap : apart K (fun i => [C0, C1, C2, C3, C4, C5, C6].getD i C0) [1, 2, 3, 4, 5, 6] = true)
    (z_range : PySem.W.nsIn K mainGlobals "range" = some none)
    (z_len : PySem.W.nsIn K mainGlobals "len" = some none)
    (z_isinstance : PySem.W.nsIn K mainGlobals "isinstance" = some none)
    (z_tuple : PySem.W.nsIn K mainGlobals "tuple" = some none)
    (z_all : PySem.W.nsIn K mainGlobals "all" = some none)
    (z_int : PySem.W.nsIn K mainGlobals "int" = some none)
    (z_bool : PySem.W.nsIn K mainGlobals "bool" = some none)
    (z_str : PySem.W.nsIn K mainGlobals "str" = some none)
    (z_enumerate : PySem.W.nsIn K mainGlobals "enumerate" = some none)
    (z_max : PySem.W.nsIn K mainGlobals "max" = some none)
    (c0 : PySem.W.nsIn K mainGlobals "LAST_LINE" = some (some (.int 7 t0)))
    (c1 : PySem.W.nsIn K mainGlobals "MOST_CELLS" = some (some (.int 24 t1)))
    (c2 : PySem.W.nsIn K mainGlobals "LONGEST_LEAP" = some (some (.int 4 t2)))
    (c3 : PySem.W.nsIn K mainGlobals "FURTHEST" = some (some (.int 12 t3)))
    (c4 : PySem.W.nsIn K mainGlobals "MOST_TO_CUT" = some (some (.int 9 t4)))
    : ∃ F FD TK CL, Txt K mg F FD TK CL ∧ F 102 = f102 ∧ (∀ (s : Shared) (u : Value), BindsTo s (FD 102) ⟨[u], []⟩ [("_law_script", u)]) :=
  ⟨fun i => match i with
     | 1 => f1
     | 2 => f2
     | 3 => f3
     | 4 => f4
     | 5 => f5
     | 6 => f6
     | 13 => f13
     | 86 => f86
     | 87 => f87
     | 98 => f98
     | 102 => f102
     | 110 => f110
     | 112 => f112
     | 113 => f113
     | 117 => f117
     | 119 => f119
     | 123 => f123
     | 133 => f133
     | 139 => f139
     | 140 => f140
     | 141 => f141
     | 118 => f6
     | _ => f0,
   fun i => match i with
     | 1 => PySem.W.fnOf "is_couple" "is_couple" (zag (top 13)) (zae (top 13)) (zaa (top 13)) .none kV1 dc1 pm1 an1 cd1 ct1
     | 2 => PySem.W.fnOf "is_cell" "is_cell" (zag (top 14)) (zae (top 14)) (zaa (top 14)) .none kV2 dc2 pm2 an2 cd2 ct2
     | 3 => PySem.W.fnOf "is_leap" "is_leap" (zag (top 15)) (zae (top 15)) (zaa (top 15)) .none kV3 dc3 pm3 an3 cd3 ct3
     | 4 => PySem.W.fnOf "is_rising" "is_rising" (zag (top 16)) (zae (top 16)) (zaa (top 16)) .none kV4 dc4 pm4 an4 cd4 ct4
     | 5 => PySem.W.fnOf "is_floor" "is_floor" (zag (top 17)) (zae (top 17)) (zaa (top 17)) .none kV5 dc5 pm5 an5 cd5 ct5
     | 6 => PySem.W.fnOf "checked" "checked" (zag (top 18)) (zae (top 18)) (zaa (top 18)) .none kV6 dc6 pm6 an6 cd6 ct6
     | 13 => PySem.W.fnOf "_law_cell" "_law_cell" (zag (top 46)) (zae (top 46)) (zaa (top 46)) .none kV13 dc13 pm13 an13 cd13 ct13
     | 86 => PySem.W.fnOf "shown_line" "shown_line" (zag (top 35)) (zae (top 35)) (zaa (top 35)) .none kV86 dc86 pm86 an86 cd86 ct86
     | 87 => PySem.W.fnOf "shown" "shown" (zag (top 36)) (zae (top 36)) (zaa (top 36)) .none kV87 dc87 pm87 an87 cd87 ct87
     | 98 => PySem.W.fnOf "cells_in" "cells_in" (zag (top 37)) (zae (top 37)) (zaa (top 37)) .none kV98 dc98 pm98 an98 cd98 ct98
     | 102 => PySem.W.fnOf "law" "law" (zag (top 49)) (zae (top 49)) (zaa (top 49)) .none kV102 dc102 pm102 an102 cd102 ct102
     | 110 => PySem.W.fnOf "can_reach" "can_reach" (zag (top 33)) (zae (top 33)) (zaa (top 33)) .none kV110 dc110 pm110 an110 cd110 ct110
     | 112 => PySem.W.fnOf "checked_leap" "checked_leap" (zag (top 19)) (zae (top 19)) (zaa (top 19)) .none kV112 dc112 pm112 an112 cd112 ct112
     | 113 => PySem.W.fnOf "refuse_far" "refuse_far" (zag (top 32)) (zae (top 32)) (zaa (top 32)) .none kV113 dc113 pm113 an113 cd113 ct113
     | 117 => PySem.W.fnOf "cut_of" "cut_of" (zag (top 44)) (zae (top 44)) (zaa (top 44)) .none kV117 dc117 pm117 an117 cd117 ct117
     | 119 => PySem.W.fnOf "refuse_big" "refuse_big" (zag (top 41)) (zae (top 41)) (zaa (top 41)) .none kV119 dc119 pm119 an119 cd119 ct119
     | 123 => PySem.W.fnOf "near_cells" "near_cells" (zag (top 29)) (zae (top 29)) (zaa (top 29)) .none kV123 dc123 pm123 an123 cd123 ct123
     | 133 => PySem.W.fnOf "checked_cell" "checked_cell" (zag (top 20)) (zae (top 20)) (zaa (top 20)) .none kV133 dc133 pm133 an133 cd133 ct133
     | 139 => PySem.W.fnOf "_law_kinds_of" "_law_kinds_of" (zag (top 48)) (zae (top 48)) (zaa (top 48)) .none kV139 dc139 pm139 an139 cd139 ct139
     | 140 => PySem.W.fnOf "_law_deed" "_law_deed" (zag (top 47)) (zae (top 47)) (zaa (top 47)) .none kV140 dc140 pm140 an140 cd140 ct140
     | 141 => PySem.W.fnOf "read" "read" (zag (top 38)) (zae (top 38)) (zaa (top 38)) .none kV141 dc141 pm141 an141 cd141 ct141
     | 118 => PySem.W.fnOf "checked" "checked" (zag (top 18)) (zae (top 18)) (zaa (top 18)) .none kV6 dc6 pm6 an6 cd6 ct6
     | _ => PySem.W.fnOf "is_whole" "is_whole" (zag (top 12)) (zae (top 12)) (zaa (top 12)) .none kV0 dc0 pm0 an0 cd0 ct0,
   fun i => [t0, t1, t2, t3, t4].getD i 0,
   fun i => [C0, C1, C2, C3, C4, C5, C6].getD i C0,
   {
     y0 := PySem.W.mg_of X G y0
     y1 := PySem.W.mg_of X G y1
     q1 := xq1
     t1 := xt1
     v1 := xv1
     y2 := PySem.W.mg_of X G y2
     q2 := xq2
     t2 := xt2
     v2 := xv2
     y3 := PySem.W.mg_of X G y3
     q3 := xq3
     t3 := xt3
     v3 := xv3
     y4 := PySem.W.mg_of X G y4
     q4 := xq4
     t4 := xt4
     v4 := xv4
     y5 := PySem.W.mg_of X G y5
     q5 := xq5
     t5 := xt5
     v5 := xv5
     y6 := PySem.W.mg_of X G y6
     q6 := xq6
     t6 := xt6
     v6 := xv6
     ap := xap
     m0 := PySem.W.mg_of X G a0
     f0 := zan (st := top 12) l0 e0 k0
     b0 := (zan (st := top 12) l0 e0 k0).binds (ps := zaw 0) fun _ _ _ _ _ _ us hl => on3 (P := fun us => bindArgs _ ⟨us, []⟩ = pure ((zaw 0).zip us)) (fun _ _ _ => rfl) us hl
     m1 := PySem.W.mg_of X G a1
     f1 := zan (st := top 13) l1 e1 k1
     b1 := (zan (st := top 13) l1 e1 k1).binds (ps := zaw 1) fun _ _ _ _ _ _ us hl => on1 (P := fun us => bindArgs _ ⟨us, []⟩ = pure ((zaw 1).zip us)) (fun _ => rfl) us hl
     m2 := PySem.W.mg_of X G a2
     f2 := zan (st := top 14) l2 e2 k2
     b2 := (zan (st := top 14) l2 e2 k2).binds (ps := zaw 2) fun _ _ _ _ _ _ us hl => on1 (P := fun us => bindArgs _ ⟨us, []⟩ = pure ((zaw 2).zip us)) (fun _ => rfl) us hl
     m3 := PySem.W.mg_of X G a3
     f3 := zan (st := top 15) l3 e3 k3
     b3 := (zan (st := top 15) l3 e3 k3).binds (ps := zaw 3) fun _ _ _ _ _ _ us hl => on1 (P := fun us => bindArgs _ ⟨us, []⟩ = pure ((zaw 3).zip us)) (fun _ => rfl) us hl
     m4 := PySem.W.mg_of X G a4
     f4 := zan (st := top 16) l4 e4 k4
     b4 := (zan (st := top 16) l4 e4 k4).binds (ps := zaw 4) fun _ _ _ _ _ _ us hl => on1 (P := fun us => bindArgs _ ⟨us, []⟩ = pure ((zaw 4).zip us)) (fun _ => rfl) us hl
     m5 := PySem.W.mg_of X G a5
     f5 := zan (st := top 17) l5 e5 k5
     b5 := (zan (st := top 17) l5 e5 k5).binds (ps := zaw 5) fun _ _ _ _ _ _ us hl => on1 (P := fun us => bindArgs _ ⟨us, []⟩ = pure ((zaw 5).zip us)) (fun _ => rfl) us hl
     m6 := PySem.W.mg_of X G a6
     f6 := zan (st := top 18) l6 e6 k6
     b6 := (zan (st := top 18) l6 e6 k6).binds (ps := zaw 6) fun _ _ _ _ _ _ us hl => on1 (P := fun us => bindArgs _ ⟨us, []⟩ = pure ((zaw 6).zip us)) (fun _ => rfl) us hl
     m13 := PySem.W.mg_of X G a13
     f13 := zan (st := top 46) l13 e13 k13
     b13 := (zan (st := top 46) l13 e13 k13).binds (ps := zaw 13) fun _ _ _ _ _ _ us hl => on2 (P := fun us => bindArgs _ ⟨us, []⟩ = pure ((zaw 13).zip us)) (fun _ _ => rfl) us hl
     m86 := PySem.W.mg_of X G a86
     f86 := zan (st := top 35) l86 e86 k86
     b86 := (zan (st := top 35) l86 e86 k86).binds (ps := zaw 86) fun _ _ _ _ _ _ us hl => on3 (P := fun us => bindArgs _ ⟨us, []⟩ = pure ((zaw 86).zip us)) (fun _ _ _ => rfl) us hl
     m87 := PySem.W.mg_of X G a87
     f87 := zan (st := top 36) l87 e87 k87
     b87 := (zan (st := top 36) l87 e87 k87).binds (ps := zaw 87) fun _ _ _ _ _ _ us hl => on1 (P := fun us => bindArgs _ ⟨us, []⟩ = pure ((zaw 87).zip us)) (fun _ => rfl) us hl
     m98 := PySem.W.mg_of X G a98
     f98 := zan (st := top 37) l98 e98 k98
     b98 := (zan (st := top 37) l98 e98 k98).binds (ps := zaw 98) fun _ _ _ _ _ _ us hl => on1 (P := fun us => bindArgs _ ⟨us, []⟩ = pure ((zaw 98).zip us)) (fun _ => rfl) us hl
     m102 := PySem.W.mg_of X G a102
     f102 := zan (st := top 49) l102 e102 k102
     b102 := (zan (st := top 49) l102 e102 k102).binds (ps := zaw 102) fun _ _ _ _ _ _ us hl => on1 (P := fun us => bindArgs _ ⟨us, []⟩ = pure ((zaw 102).zip us)) (fun _ => rfl) us hl
     m110 := PySem.W.mg_of X G a110
     f110 := zan (st := top 33) l110 e110 k110
     b110 := (zan (st := top 33) l110 e110 k110).binds (ps := zaw 110) fun _ _ _ _ _ _ us hl => on3 (P := fun us => bindArgs _ ⟨us, []⟩ = pure ((zaw 110).zip us)) (fun _ _ _ => rfl) us hl
     m112 := PySem.W.mg_of X G a112
     f112 := zan (st := top 19) l112 e112 k112
     b112 := (zan (st := top 19) l112 e112 k112).binds (ps := zaw 112) fun _ _ _ _ _ _ us hl => on1 (P := fun us => bindArgs _ ⟨us, []⟩ = pure ((zaw 112).zip us)) (fun _ => rfl) us hl
     m113 := PySem.W.mg_of X G a113
     f113 := zan (st := top 32) l113 e113 k113
     b113 := (zan (st := top 32) l113 e113 k113).binds (ps := zaw 113) fun _ _ _ _ _ _ us hl => on1 (P := fun us => bindArgs _ ⟨us, []⟩ = pure ((zaw 113).zip us)) (fun _ => rfl) us hl
     m117 := PySem.W.mg_of X G a117
     f117 := zan (st := top 44) l117 e117 k117
     b117 := (zan (st := top 44) l117 e117 k117).binds (ps := zaw 117) fun _ _ _ _ _ _ us hl => on3 (P := fun us => bindArgs _ ⟨us, []⟩ = pure ((zaw 117).zip us)) (fun _ _ _ => rfl) us hl
     m119 := PySem.W.mg_of X G a119
     f119 := zan (st := top 41) l119 e119 k119
     b119 := (zan (st := top 41) l119 e119 k119).binds (ps := zaw 119) fun _ _ _ _ _ _ us hl => on2 (P := fun us => bindArgs _ ⟨us, []⟩ = pure ((zaw 119).zip us)) (fun _ _ => rfl) us hl
     m123 := PySem.W.mg_of X G a123
     f123 := zan (st := top 29) l123 e123 k123
     b123 := (zan (st := top 29) l123 e123 k123).binds (ps := zaw 123) fun _ _ _ _ _ _ us hl => on3 (P := fun us => bindArgs _ ⟨us, []⟩ = pure ((zaw 123).zip us)) (fun _ _ _ => rfl) us hl
     m133 := PySem.W.mg_of X G a133
     f133 := zan (st := top 20) l133 e133 k133
     b133 := (zan (st := top 20) l133 e133 k133).binds (ps := zaw 133) fun _ _ _ _ _ _ us hl => on2 (P := fun us => bindArgs _ ⟨us, []⟩ = pure ((zaw 133).zip us)) (fun _ _ => rfl) us hl
     m139 := PySem.W.mg_of X G a139
     f139 := zan (st := top 48) l139 e139 k139
     b139 := (zan (st := top 48) l139 e139 k139).binds (ps := zaw 139) fun _ _ _ _ _ _ us hl => on1 (P := fun us => bindArgs _ ⟨us, []⟩ = pure ((zaw 139).zip us)) (fun _ => rfl) us hl
     m140 := PySem.W.mg_of X G a140
     f140 := zan (st := top 47) l140 e140 k140
     b140 := (zan (st := top 47) l140 e140 k140).binds (ps := zaw 140) fun _ _ _ _ _ _ us hl => on1 (P := fun us => bindArgs _ ⟨us, []⟩ = pure ((zaw 140).zip us)) (fun _ => rfl) us hl
     m141 := PySem.W.mg_of X G a141
     f141 := zan (st := top 38) l141 e141 k141
     b141 := (zan (st := top 38) l141 e141 k141).binds (ps := zaw 141) fun _ _ _ _ _ _ us hl => on1 (P := fun us => bindArgs _ ⟨us, []⟩ = pure ((zaw 141).zip us)) (fun _ => rfl) us hl
     m118 := PySem.W.mg_of X G a6
     f118 := zan (st := top 18) l6 e6 k6
     b118 := (zan (st := top 18) l6 e6 k6).binds (ps := zaw 118) fun _ _ _ _ _ _ us hl => on1 (P := fun us => bindArgs _ ⟨us, []⟩ = pure ((zaw 118).zip us)) (fun _ => rfl) us hl
     z_range := PySem.W.mg_none_of X G z_range
     z_len := PySem.W.mg_none_of X G z_len
     z_isinstance := PySem.W.mg_none_of X G z_isinstance
     z_tuple := PySem.W.mg_none_of X G z_tuple
     z_all := PySem.W.mg_none_of X G z_all
     z_int := PySem.W.mg_none_of X G z_int
     z_bool := PySem.W.mg_none_of X G z_bool
     z_str := PySem.W.mg_none_of X G z_str
     z_enumerate := PySem.W.mg_none_of X G z_enumerate
     z_max := PySem.W.mg_none_of X G z_max
     c0 := PySem.W.mg_of X G c0
     c1 := PySem.W.mg_of X G c1
     c2 := PySem.W.mg_of X G c2
     c3 := PySem.W.mg_of X G c3
     c4 := PySem.W.mg_of X G c4
   }, rfl, fun s u => .of_eq rfl⟩
end
end LK
namespace LK
open PySem PySem.W L2
noncomputable def en (P : Params) (x : Str) (t : Nat) (v : Value) : DictEntry := ⟨PyData.keyHash P x, .str x t, v⟩
noncomputable def fo (i : Nat) (x m : Str) (t c : Nat) : Obj := ⟨.type "function", none, .func (fnOf x x (zag (top i)) (zae (top i)) (zaa (top i)) .none .none .none (.str m t) none (.ref c) .none), #[]⟩
noncomputable def co (x : Str) (t l a r h : Nat) : Obj := ⟨.type "code", none, .fields #[.str x t, .str x (t + 1), .str "/claim/cut.py" (t + 2), .int l 0, .int a 0, .int 0 0, .int 0 0, .int 3 0, .ref r, .bool true, .int 181 0, .ref (r + 1), .none, .ref (r + 2), .ref (r + 3), .ref (r + 4), .int h 0, .int l 0, .str "/claim/cut.py" (h + 1)], #[]⟩
noncomputable def cn (x : Str) (t l a r h : Nat) : Obj := ⟨.type "code", none, .fields #[.str x t, .str x (t + 1), .str "/claim/cut.py" (t + 2), .int l 0, .int a 0, .int 0 0, .int 0 0, .int 3 0, .ref r, .bool true, .int 181 0, .ref (r + 1), .none, .none, .none, .ref (r + 2), .int h 0, .int l 0, .str "/claim/cut.py" (h + 1)], #[]⟩
noncomputable def HK (P : Params) : Frag := [(3, .mk (.type "dict") none (.dict #[en P "__name__" 165 (.str "law_leaperwalk_k21_refusals_stand_apart" 544), en P "__doc__" 166 .none, en P "__package__" 167 .none, en P "__loader__" 168 (.builtin "__main__.__loader__#opaque"), en P "__spec__" 169 .none, en P "__annotations__" 170 (.ref 6), en P "__builtins__" 171 (.ref 4), en P "__file__" 173 (.str "/claim/cut.py" 172), en P "__cached__" 174 .none, en P "LeapError" 206 (.ref 24), en P "BadFloor" 222 (.ref 37), en P "BadLeap" 238 (.ref 49), en P "NoCell" 254 (.ref 61), en P "BadNumber" 270 (.ref 73), en P "TooBig" 286 (.ref 85), en P "BadText" 302 (.ref 97), en P "LAST_LINE" 306 (.int 7 305), en P "MOST_CELLS" 308 (.int 24 307), en P "LONGEST_LEAP" 310 (.int 4 309), en P "is_whole" 319 (.ref 106), en P "is_couple" 326 (.ref 113), en P "is_cell" 333 (.ref 120), en P "is_leap" 340 (.ref 127), en P "is_rising" 346 (.ref 132), en P "is_floor" 352 (.ref 137), en P "checked" 359 (.ref 144), en P "checked_leap" 366 (.ref 151), en P "checked_cell" 374 (.ref 158), en P "folded" 384 (.ref 165), en P "are_near" 393 (.ref 172), en P "cells_near" 399 (.ref 177), en P "leads_to" 413 (.ref 184), en P "parts_within" 425 (.ref 191), en P "greatest_divisor" 431 (.ref 196), en P "has_odd_sum" 439 (.ref 203), en P "near_cells" 448 (.ref 210), en P "FURTHEST" 452 (.int 12 451), en P "refuse_far" 459 (.ref 217), en P "can_reach" 469 (.ref 224), en P "shown_line" 477 (.ref 229), en P "shown" 483 (.ref 234), en P "cells_in" 495 (.ref 241), en P "read" 503 (.ref 248), en P "MOST_TO_CUT" 507 (.int 9 506), en P "refuse_big" 515 (.ref 255), en P "leaves_too_many" 521 (.ref 260), en P "one_cell_more" 532 (.ref 267), en P "cut_of" 543 (.ref 274), en P "_law_cell" 553 (.ref 281), en P "_law_deed" 559 (.ref 286), en P "_law_kinds_of" 568 (.ref 293), en P "law" 574 (.ref 298)] 52) #[]),
  (17, .mk (.type "dict") none (.dict #[en P "__module__" 196 (.str "leaperwalk.errors" 187), en P "__qualname__" 198 (.str "LeapError" 197), en P "__firstlineno__" 200 (.int 2 199), en P "__static_attributes__" 201 (.ref 22)] 4) #[]),
  (23, .mk (.type "dict") none (.dict #[en P "__module__" 196 (.str "leaperwalk.errors" 187), en P "__firstlineno__" 200 (.int 2 199), en P "__static_attributes__" 201 (.ref 22), en P "__weakref__" 203 (.ref 25), en P "__doc__" 204 .none] 3) #[]),
  (24, .mk (.type "type") none (.cls (.mk "LeapError" [.type "ValueError"] [.ref 24, .type "ValueError", .type "Exception", .type "BaseException", .type "object"] 23 "LeapError" true [] [.ref 37, .ref 49, .ref 61, .ref 73, .ref 85, .ref 97] false none false)) #[some (.ref 15), none, some (.str "LeapError" 189), some (.str "LeapError" 197), some (.builtin "ValueError.__new__"), some (.bool true)]),
  (30, .mk (.type "dict") none (.dict #[en P "__module__" 214 (.str "leaperwalk.errors" 187), en P "__qualname__" 216 (.str "BadFloor" 215), en P "__firstlineno__" 218 (.int 4 217), en P "__static_attributes__" 219 (.ref 35)] 4) #[]),
  (36, .mk (.type "dict") none (.dict #[en P "__module__" 214 (.str "leaperwalk.errors" 187), en P "__firstlineno__" 218 (.int 4 217), en P "__static_attributes__" 219 (.ref 35), en P "__doc__" 220 .none] 2) #[]),
  (37, .mk (.type "type") none (.cls (.mk "BadFloor" [.ref 24] [.ref 37, .ref 24, .type "ValueError", .type "Exception", .type "BaseException", .type "object"] 36 "BadFloor" true [] [] false none false)) #[some (.ref 28), none, some (.str "BadFloor" 207), some (.str "BadFloor" 215), some (.builtin "ValueError.__new__"), some (.bool true)]),
  (42, .mk (.type "dict") none (.dict #[en P "__module__" 230 (.str "leaperwalk.errors" 187), en P "__qualname__" 232 (.str "BadLeap" 231), en P "__firstlineno__" 234 (.int 6 233), en P "__static_attributes__" 235 (.ref 47)] 4) #[]),
  (48, .mk (.type "dict") none (.dict #[en P "__module__" 230 (.str "leaperwalk.errors" 187), en P "__firstlineno__" 234 (.int 6 233), en P "__static_attributes__" 235 (.ref 47), en P "__doc__" 236 .none] 2) #[]),
  (49, .mk (.type "type") none (.cls (.mk "BadLeap" [.ref 24] [.ref 49, .ref 24, .type "ValueError", .type "Exception", .type "BaseException", .type "object"] 48 "BadLeap" true [] [] false none false)) #[some (.ref 40), none, some (.str "BadLeap" 223), some (.str "BadLeap" 231), some (.builtin "ValueError.__new__"), some (.bool true)]),
  (54, .mk (.type "dict") none (.dict #[en P "__module__" 246 (.str "leaperwalk.errors" 187), en P "__qualname__" 248 (.str "NoCell" 247), en P "__firstlineno__" 250 (.int 8 249), en P "__static_attributes__" 251 (.ref 59)] 4) #[]),
  (60, .mk (.type "dict") none (.dict #[en P "__module__" 246 (.str "leaperwalk.errors" 187), en P "__firstlineno__" 250 (.int 8 249), en P "__static_attributes__" 251 (.ref 59), en P "__doc__" 252 .none] 2) #[]),
  (61, .mk (.type "type") none (.cls (.mk "NoCell" [.ref 24] [.ref 61, .ref 24, .type "ValueError", .type "Exception", .type "BaseException", .type "object"] 60 "NoCell" true [] [] false none false)) #[some (.ref 52), none, some (.str "NoCell" 239), some (.str "NoCell" 247), some (.builtin "ValueError.__new__"), some (.bool true)]),
  (66, .mk (.type "dict") none (.dict #[en P "__module__" 262 (.str "leaperwalk.errors" 187), en P "__qualname__" 264 (.str "BadNumber" 263), en P "__firstlineno__" 266 (.int 10 265), en P "__static_attributes__" 267 (.ref 71)] 4) #[]),
  (72, .mk (.type "dict") none (.dict #[en P "__module__" 262 (.str "leaperwalk.errors" 187), en P "__firstlineno__" 266 (.int 10 265), en P "__static_attributes__" 267 (.ref 71), en P "__doc__" 268 .none] 2) #[]),
  (73, .mk (.type "type") none (.cls (.mk "BadNumber" [.ref 24] [.ref 73, .ref 24, .type "ValueError", .type "Exception", .type "BaseException", .type "object"] 72 "BadNumber" true [] [] false none false)) #[some (.ref 64), none, some (.str "BadNumber" 255), some (.str "BadNumber" 263), some (.builtin "ValueError.__new__"), some (.bool true)]),
  (78, .mk (.type "dict") none (.dict #[en P "__module__" 278 (.str "leaperwalk.errors" 187), en P "__qualname__" 280 (.str "TooBig" 279), en P "__firstlineno__" 282 (.int 12 281), en P "__static_attributes__" 283 (.ref 83)] 4) #[]),
  (84, .mk (.type "dict") none (.dict #[en P "__module__" 278 (.str "leaperwalk.errors" 187), en P "__firstlineno__" 282 (.int 12 281), en P "__static_attributes__" 283 (.ref 83), en P "__doc__" 284 .none] 2) #[]),
  (85, .mk (.type "type") none (.cls (.mk "TooBig" [.ref 24] [.ref 85, .ref 24, .type "ValueError", .type "Exception", .type "BaseException", .type "object"] 84 "TooBig" true [] [] false none false)) #[some (.ref 76), none, some (.str "TooBig" 271), some (.str "TooBig" 279), some (.builtin "ValueError.__new__"), some (.bool true)]),
  (90, .mk (.type "dict") none (.dict #[en P "__module__" 294 (.str "leaperwalk.errors" 187), en P "__qualname__" 296 (.str "BadText" 295), en P "__firstlineno__" 298 (.int 14 297), en P "__static_attributes__" 299 (.ref 95)] 4) #[]),
  (96, .mk (.type "dict") none (.dict #[en P "__module__" 294 (.str "leaperwalk.errors" 187), en P "__firstlineno__" 298 (.int 14 297), en P "__static_attributes__" 299 (.ref 95), en P "__doc__" 300 .none] 2) #[]),
  (97, .mk (.type "type") none (.cls (.mk "BadText" [.ref 24] [.ref 97, .ref 24, .type "ValueError", .type "Exception", .type "BaseException", .type "object"] 96 "BadText" true [] [] false none false)) #[some (.ref 88), none, some (.str "BadText" 287), some (.str "BadText" 295), some (.builtin "ValueError.__new__"), some (.bool true)]),
  (105, co "is_whole" 311 20 3 100 317),
  (106, fo 12 "is_whole" "leaperwalk.floors" 303 105),
  (112, co "is_couple" 320 24 1 107 324),
  (113, fo 13 "is_couple" "leaperwalk.floors" 303 112),
  (119, co "is_cell" 327 26 1 114 331),
  (120, fo 14 "is_cell" "leaperwalk.floors" 303 119),
  (126, co "is_leap" 334 28 1 121 338),
  (127, fo 15 "is_leap" "leaperwalk.floors" 303 126),
  (131, cn "is_rising" 341 30 1 128 344),
  (132, fo 16 "is_rising" "leaperwalk.floors" 303 131),
  (136, cn "is_floor" 347 32 1 133 350),
  (137, fo 17 "is_floor" "leaperwalk.floors" 303 136),
  (143, co "checked" 353 36 1 138 357),
  (144, fo 18 "checked" "leaperwalk.floors" 303 143),
  (150, co "checked_leap" 360 40 1 145 364),
  (151, fo 19 "checked_leap" "leaperwalk.floors" 303 150),
  (157, co "checked_cell" 367 44 2 152 372),
  (158, fo 20 "checked_cell" "leaperwalk.floors" 303 157),
  (209, co "near_cells" 440 81 3 204 446),
  (210, fo 29 "near_cells" "leaperwalk.leaps" 375 209),
  (216, co "refuse_far" 453 88 1 211 457),
  (217, fo 32 "refuse_far" "leaperwalk.endless" 449 216),
  (223, co "can_reach" 460 91 3 218 467),
  (224, fo 33 "can_reach" "leaperwalk.endless" 449 223),
  (228, cn "shown_line" 472 100 3 225 475),
  (229, fo 35 "shown_line" "leaperwalk.texts" 470 228),
  (233, cn "shown" 478 102 1 230 481),
  (234, fo 36 "shown" "leaperwalk.texts" 470 233),
  (240, co "cells_in" 484 106 1 235 493),
  (241, fo 37 "cells_in" "leaperwalk.texts" 470 240),
  (247, co "read" 496 113 1 242 501),
  (248, fo 38 "read" "leaperwalk.texts" 470 247),
  (254, co "refuse_big" 508 122 2 249 513),
  (255, fo 41 "refuse_big" "leaperwalk.walks" 504 254),
  (273, co "cut_of" 533 136 3 268 541),
  (274, fo 44 "cut_of" "leaperwalk.walks" 504 273),
  (280, co "_law_cell" 546 150 2 275 551),
  (281, fo 46 "_law_cell" "law_leaperwalk_k21_refusals_stand_apart" 544 280),
  (285, cn "_law_deed" 554 154 1 282 557),
  (286, fo 47 "_law_deed" "law_leaperwalk_k21_refusals_stand_apart" 544 285),
  (292, co "_law_kinds_of" 560 166 1 287 566),
  (293, fo 48 "_law_kinds_of" "law_leaperwalk_k21_refusals_stand_apart" 544 292),
  (297, cn "law" 569 174 1 294 572),
  (298, fo 49 "law" "law_leaperwalk_k21_refusals_stand_apart" 544 297)]
noncomputable def HA : List Addr := [3, 17, 23, 24, 30, 36, 37, 42, 48, 49, 54, 60, 61, 66, 72, 73, 78, 84, 85, 90, 96, 97, 105, 106, 112, 113, 119, 120, 126, 127, 131, 132, 136, 137, 143, 144, 150, 151, 157, 158, 209, 210, 216, 217, 223, 224, 228, 229, 233, 234, 240, 241, 247, 248, 254, 255, 273, 274, 280, 281, 285, 286, 292, 293, 297, 298]
noncomputable def HQ : Program := view PySem.Challenge.pw_leaperwalk_k21_refusals_stand_apart [1, 2, 3, 4, 5, 6, 7, 9, 10, 11, 12, 13, 14, 15, 16, 17, 18, 19, 20, 22, 23, 24, 25, 26, 27, 28, 29, 31, 32, 33, 35, 36, 37, 38, 40, 41, 42, 43, 44, 46, 47, 48, 49]
theorem hka : ∀ P, HA = (HK P).map (·.1) := fun P => by kernel_rfl
noncomputable def HH : Hook := kHook HK HA hka
noncomputable def tu (a : Array Value) : Obj := ⟨.type "tuple", none, .seq a, #[]⟩
noncomputable def fi (c : Value) (a : Array Value) : Obj := ⟨c, none, .fields a, #[]⟩
noncomputable def di (a : Array DictEntry) (n : Nat) : Obj := ⟨.type "dict", none, .dict a n, #[]⟩
noncomputable def MH (P : Params) : Heap := ⟨#[boot_o_0 P,
  boot_o_1 P,
  boot_o_2 P,
  di #[en P "__name__" 165 (.str "leaperwalk.errors" 187), en P "__doc__" 166 .none, en P "__package__" 167 .none, en P "__loader__" 168 (.builtin "__main__.__loader__#opaque"), en P "__spec__" 169 .none, en P "__annotations__" 170 (.ref 6), en P "__builtins__" 171 (.ref 4), en P "__file__" 173 (.str "/claim/cut.py" 172), en P "__cached__" 174 .none, en P "LeapError" 206 (.ref 24), en P "BadFloor" 222 (.ref 37), en P "BadLeap" 238 (.ref 49), en P "NoCell" 254 (.ref 61), en P "BadNumber" 270 (.ref 73), en P "TooBig" 286 (.ref 85), en P "BadText" 302 (.ref 97)] 16,
  boot_o_4 P,
  boot_o_5 P,
  boot_o_6 P,
  boot_o_7 P,
  boot_o_8 P,
  boot_o_9 P,
  boot_o_10 P,
  tu #[],
  fi .none #[.int 2 0, .int 0 0, .ref 20, .int 4 0, .int 0 0, .ref 33, .int 6 0, .int 0 0, .ref 45, .int 8 0, .int 0 0, .ref 57, .int 10 0, .int 0 0, .ref 69, .int 12 0, .int 0 0, .ref 81, .int 14 0, .int 0 0, .ref 93],
  fi (.type "code") #[.str "<module>" 182, .str "<module>" 183, .str "/claim/cut.py" 184, .int 1 0, .int 0 0, .int 0 0, .int 0 0, .int 0 0, .ref 11, .bool false, .int 181 0, .ref 12, .none, .none, .none, .none, .int 185 0, .int 1 0, .str "/claim/cut.py" 186],
  .mk (.type "frame") none .plain #[some (.ref 13), some (.ref 3), some (.ref 3), none, some (.str "__main__" 164), none, some (.ref 0)],
  tu #[.type "ValueError"],
  fi (.type "builtin_function_or_method") #[.builtin "type.__prepare__", .type "type"],
  di #[en P "__module__" 196 (.str "leaperwalk.errors" 187), en P "__qualname__" 198 (.str "LeapError" 197), en P "__firstlineno__" 200 (.int 2 199), en P "__static_attributes__" 201 (.ref 22)] 4,
  tu #[],
  fi .none #[],
  fi (.type "code") #[.str "LeapError" 191, .str "LeapError" 192, .str "/claim/cut.py" 193, .int 2 0, .int 0 0, .int 0 0, .int 0 0, .int 0 0, .ref 18, .bool false, .int 181 0, .ref 19, .none, .none, .none, .none, .int 194 0, .int 2 0, .str "/claim/cut.py" 195],
  .mk (.type "frame") none .plain #[some (.ref 20), some (.ref 3), some (.ref 17), none, some (.str "leaperwalk.errors" 187), none, some (.ref 0)],
  tu #[],
  di #[en P "__module__" 196 (.str "leaperwalk.errors" 187), en P "__firstlineno__" 200 (.int 2 199), en P "__static_attributes__" 201 (.ref 22), en P "__weakref__" 203 (.ref 25), en P "__doc__" 204 .none] 3,
  .mk (.type "type") none (.cls (.mk "LeapError" [.type "ValueError"] [.ref 24, .type "ValueError", .type "Exception", .type "BaseException", .type "object"] 23 "LeapError" true [] [.ref 37, .ref 49, .ref 61, .ref 73, .ref 85, .ref 97] false none false)) #[some (.ref 15), none, some (.str "LeapError" 189), some (.str "LeapError" 197), some (.builtin "ValueError.__new__"), some (.bool true)],
  fi (.type "getset_descriptor") #[.str "__weakref__" 202, .ref 24, .builtin "ExceptionGroup.__weakref__", .none],
  fi (.type "super") #[.ref 24, .ref 24, .ref 24],
  fi (.type "builtin_function_or_method") #[.builtin "object.__init_subclass__", .ref 24],
  tu #[.ref 24],
  fi (.type "builtin_function_or_method") #[.builtin "type.__prepare__", .type "type"],
  di #[en P "__module__" 214 (.str "leaperwalk.errors" 187), en P "__qualname__" 216 (.str "BadFloor" 215), en P "__firstlineno__" 218 (.int 4 217), en P "__static_attributes__" 219 (.ref 35)] 4,
  tu #[],
  fi .none #[],
  fi (.type "code") #[.str "BadFloor" 209, .str "BadFloor" 210, .str "/claim/cut.py" 211, .int 4 0, .int 0 0, .int 0 0, .int 0 0, .int 0 0, .ref 31, .bool false, .int 181 0, .ref 32, .none, .none, .none, .none, .int 212 0, .int 4 0, .str "/claim/cut.py" 213],
  .mk (.type "frame") none .plain #[some (.ref 33), some (.ref 3), some (.ref 30), none, some (.str "leaperwalk.errors" 187), none, some (.ref 0)],
  tu #[],
  di #[en P "__module__" 214 (.str "leaperwalk.errors" 187), en P "__firstlineno__" 218 (.int 4 217), en P "__static_attributes__" 219 (.ref 35), en P "__doc__" 220 .none] 2,
  .mk (.type "type") none (.cls (.mk "BadFloor" [.ref 24] [.ref 37, .ref 24, .type "ValueError", .type "Exception", .type "BaseException", .type "object"] 36 "BadFloor" true [] [] false none false)) #[some (.ref 28), none, some (.str "BadFloor" 207), some (.str "BadFloor" 215), some (.builtin "ValueError.__new__"), some (.bool true)],
  fi (.type "super") #[.ref 37, .ref 37, .ref 37],
  fi (.type "builtin_function_or_method") #[.builtin "object.__init_subclass__", .ref 37],
  tu #[.ref 24],
  fi (.type "builtin_function_or_method") #[.builtin "type.__prepare__", .type "type"],
  di #[en P "__module__" 230 (.str "leaperwalk.errors" 187), en P "__qualname__" 232 (.str "BadLeap" 231), en P "__firstlineno__" 234 (.int 6 233), en P "__static_attributes__" 235 (.ref 47)] 4,
  tu #[],
  fi .none #[],
  fi (.type "code") #[.str "BadLeap" 225, .str "BadLeap" 226, .str "/claim/cut.py" 227, .int 6 0, .int 0 0, .int 0 0, .int 0 0, .int 0 0, .ref 43, .bool false, .int 181 0, .ref 44, .none, .none, .none, .none, .int 228 0, .int 6 0, .str "/claim/cut.py" 229],
  .mk (.type "frame") none .plain #[some (.ref 45), some (.ref 3), some (.ref 42), none, some (.str "leaperwalk.errors" 187), none, some (.ref 0)],
  tu #[],
  di #[en P "__module__" 230 (.str "leaperwalk.errors" 187), en P "__firstlineno__" 234 (.int 6 233), en P "__static_attributes__" 235 (.ref 47), en P "__doc__" 236 .none] 2,
  .mk (.type "type") none (.cls (.mk "BadLeap" [.ref 24] [.ref 49, .ref 24, .type "ValueError", .type "Exception", .type "BaseException", .type "object"] 48 "BadLeap" true [] [] false none false)) #[some (.ref 40), none, some (.str "BadLeap" 223), some (.str "BadLeap" 231), some (.builtin "ValueError.__new__"), some (.bool true)],
  fi (.type "super") #[.ref 49, .ref 49, .ref 49],
  fi (.type "builtin_function_or_method") #[.builtin "object.__init_subclass__", .ref 49],
  tu #[.ref 24],
  fi (.type "builtin_function_or_method") #[.builtin "type.__prepare__", .type "type"],
  di #[en P "__module__" 246 (.str "leaperwalk.errors" 187), en P "__qualname__" 248 (.str "NoCell" 247), en P "__firstlineno__" 250 (.int 8 249), en P "__static_attributes__" 251 (.ref 59)] 4,
  tu #[],
  fi .none #[],
  fi (.type "code") #[.str "NoCell" 241, .str "NoCell" 242, .str "/claim/cut.py" 243, .int 8 0, .int 0 0, .int 0 0, .int 0 0, .int 0 0, .ref 55, .bool false, .int 181 0, .ref 56, .none, .none, .none, .none, .int 244 0, .int 8 0, .str "/claim/cut.py" 245],
  .mk (.type "frame") none .plain #[some (.ref 57), some (.ref 3), some (.ref 54), none, some (.str "leaperwalk.errors" 187), none, some (.ref 0)],
  tu #[],
  di #[en P "__module__" 246 (.str "leaperwalk.errors" 187), en P "__firstlineno__" 250 (.int 8 249), en P "__static_attributes__" 251 (.ref 59), en P "__doc__" 252 .none] 2,
  .mk (.type "type") none (.cls (.mk "NoCell" [.ref 24] [.ref 61, .ref 24, .type "ValueError", .type "Exception", .type "BaseException", .type "object"] 60 "NoCell" true [] [] false none false)) #[some (.ref 52), none, some (.str "NoCell" 239), some (.str "NoCell" 247), some (.builtin "ValueError.__new__"), some (.bool true)],
  fi (.type "super") #[.ref 61, .ref 61, .ref 61],
  fi (.type "builtin_function_or_method") #[.builtin "object.__init_subclass__", .ref 61],
  tu #[.ref 24],
  fi (.type "builtin_function_or_method") #[.builtin "type.__prepare__", .type "type"],
  di #[en P "__module__" 262 (.str "leaperwalk.errors" 187), en P "__qualname__" 264 (.str "BadNumber" 263), en P "__firstlineno__" 266 (.int 10 265), en P "__static_attributes__" 267 (.ref 71)] 4,
  tu #[],
  fi .none #[],
  fi (.type "code") #[.str "BadNumber" 257, .str "BadNumber" 258, .str "/claim/cut.py" 259, .int 10 0, .int 0 0, .int 0 0, .int 0 0, .int 0 0, .ref 67, .bool false, .int 181 0, .ref 68, .none, .none, .none, .none, .int 260 0, .int 10 0, .str "/claim/cut.py" 261],
  .mk (.type "frame") none .plain #[some (.ref 69), some (.ref 3), some (.ref 66), none, some (.str "leaperwalk.errors" 187), none, some (.ref 0)],
  tu #[],
  di #[en P "__module__" 262 (.str "leaperwalk.errors" 187), en P "__firstlineno__" 266 (.int 10 265), en P "__static_attributes__" 267 (.ref 71), en P "__doc__" 268 .none] 2,
  .mk (.type "type") none (.cls (.mk "BadNumber" [.ref 24] [.ref 73, .ref 24, .type "ValueError", .type "Exception", .type "BaseException", .type "object"] 72 "BadNumber" true [] [] false none false)) #[some (.ref 64), none, some (.str "BadNumber" 255), some (.str "BadNumber" 263), some (.builtin "ValueError.__new__"), some (.bool true)],
  fi (.type "super") #[.ref 73, .ref 73, .ref 73],
  fi (.type "builtin_function_or_method") #[.builtin "object.__init_subclass__", .ref 73],
  tu #[.ref 24],
  fi (.type "builtin_function_or_method") #[.builtin "type.__prepare__", .type "type"],
  di #[en P "__module__" 278 (.str "leaperwalk.errors" 187), en P "__qualname__" 280 (.str "TooBig" 279), en P "__firstlineno__" 282 (.int 12 281), en P "__static_attributes__" 283 (.ref 83)] 4,
  tu #[],
  fi .none #[],
  fi (.type "code") #[.str "TooBig" 273, .str "TooBig" 274, .str "/claim/cut.py" 275, .int 12 0, .int 0 0, .int 0 0, .int 0 0, .int 0 0, .ref 79, .bool false, .int 181 0, .ref 80, .none, .none, .none, .none, .int 276 0, .int 12 0, .str "/claim/cut.py" 277],
  .mk (.type "frame") none .plain #[some (.ref 81), some (.ref 3), some (.ref 78), none, some (.str "leaperwalk.errors" 187), none, some (.ref 0)],
  tu #[],
  di #[en P "__module__" 278 (.str "leaperwalk.errors" 187), en P "__firstlineno__" 282 (.int 12 281), en P "__static_attributes__" 283 (.ref 83), en P "__doc__" 284 .none] 2,
  .mk (.type "type") none (.cls (.mk "TooBig" [.ref 24] [.ref 85, .ref 24, .type "ValueError", .type "Exception", .type "BaseException", .type "object"] 84 "TooBig" true [] [] false none false)) #[some (.ref 76), none, some (.str "TooBig" 271), some (.str "TooBig" 279), some (.builtin "ValueError.__new__"), some (.bool true)],
  fi (.type "super") #[.ref 85, .ref 85, .ref 85],
  fi (.type "builtin_function_or_method") #[.builtin "object.__init_subclass__", .ref 85],
  tu #[.ref 24],
  fi (.type "builtin_function_or_method") #[.builtin "type.__prepare__", .type "type"],
  di #[en P "__module__" 294 (.str "leaperwalk.errors" 187), en P "__qualname__" 296 (.str "BadText" 295), en P "__firstlineno__" 298 (.int 14 297), en P "__static_attributes__" 299 (.ref 95)] 4,
  tu #[],
  fi .none #[],
  fi (.type "code") #[.str "BadText" 289, .str "BadText" 290, .str "/claim/cut.py" 291, .int 14 0, .int 0 0, .int 0 0, .int 0 0, .int 0 0, .ref 91, .bool false, .int 181 0, .ref 92, .none, .none, .none, .none, .int 292 0, .int 14 0, .str "/claim/cut.py" 293],
  .mk (.type "frame") none .plain #[some (.ref 93), some (.ref 3), some (.ref 90), none, some (.str "leaperwalk.errors" 187), none, some (.ref 0)],
  tu #[],
  di #[en P "__module__" 294 (.str "leaperwalk.errors" 187), en P "__firstlineno__" 298 (.int 14 297), en P "__static_attributes__" 299 (.ref 95), en P "__doc__" 300 .none] 2,
  .mk (.type "type") none (.cls (.mk "BadText" [.ref 24] [.ref 97, .ref 24, .type "ValueError", .type "Exception", .type "BaseException", .type "object"] 96 "BadText" true [] [] false none false)) #[some (.ref 88), none, some (.str "BadText" 287), some (.str "BadText" 295), some (.builtin "ValueError.__new__"), some (.bool true)],
  fi (.type "super") #[.ref 97, .ref 97, .ref 97],
  fi (.type "builtin_function_or_method") #[.builtin "object.__init_subclass__", .ref 97]], (boot_heap P).life⟩
noncomputable def ME : PySem.Env := { scope := PySem.Challenge.pw_leaperwalk_k21_refusals_stand_apart.main.scope, locals := mainNs, globals := mainNs, cells := [], code := .ref 13, frame := some 14 }
noncomputable def MT : Thread := ⟨((execs ((behindTheImports PySem.Challenge.pw_leaperwalk_k21_refusals_stand_apart).drop 8) ME).onRaise (leaving ME)).bind fun f => (Sem.pure (Fin.done f) : Sem Fin), .body (behindTheImports PySem.Challenge.pw_leaperwalk_k21_refusals_stand_apart) ME, ⟨14, 0, 15, 8⟩, [topFrame ⟨0, 0, 0, 0⟩]⟩
set_option maxHeartbeats 0 in
theorem zs4 : ∀ w os, topGo treeTable PySem.Challenge.pw_leaperwalk_k21_refusals_stand_apart w 11 (some (.ref 6)) 1485 ⟨boot_heap w.params, Array.mk [], boot_drawn, boot_toks, os⟩ (topStub PySem.Challenge.pw_leaperwalk_k21_refusals_stand_apart) = some (⟨MH w.params, #[], boot_drawn, 303, os⟩, MT) := by
  intro w os
  kernel_rfl
theorem zlA {p q : Program} {loose : List Str} {Xt : Shared → Bool} {α : Type} {Yf : Shared → α} {Ya : World → α} {m n M : Nat} {ann : Option Value} {H : Params → Heap} {k : Nat} {th : Thread}
    (e : opening p = plainProg p.main.scope.names) (hN : Nat.ble 600 (n + M) = true) (f : ∀ s, fenceModules? p s = some s)
    (z1 : ∀ P, (boot_heap P).isNs mainGlobals = true) (z2 : ∀ P, (boot_heap P).objs.size = m) (z3 : ∀ P, (boot_heap P).nsMap mainGlobals "__annotations__" = ann)
    (A : ∀ w os, topGo treeTable p w m ann n ⟨boot_heap w.params, Array.mk [], boot_drawn, boot_toks, os⟩ (topStub p) = some (⟨H w.params, #[], boot_drawn, k, os⟩, th))
    (B : ∀ w os, (topRun treeTable p w m ann M ⟨H w.params, #[], boot_drawn, k, os⟩ th).map (fun s =>
        ((staticsOk (importedModules p.main.body) (boot_heap w.params) s.heap && namesBound p s.heap && gensDone s && laidKept (boot_heap w.params) s.heap : Bool), (openSeen q loose (importedModules p.main.body) Xt true s).1)) = some (true, (openGood q loose).1))
    (B' : ∀ w os, (topRun treeTable p w m ann M ⟨H w.params, #[], boot_drawn, k, os⟩ th).map (fun s => ((openSeen q loose (importedModules p.main.body) Xt true s).2, Yf s)) = some ((openGood q loose).2, Ya w)) :
    LeftO p q loose Xt Yf Ya (n + M) := fun w => by
  obtain ⟨⟨h, gs, d, t, os⟩, e1, e2⟩ := jo2.mp (boot_open e hN f w)
  simp only [Prod.mk.injEq] at e2
  obtain ⟨rfl, rfl, rfl, rfl⟩ := e2
  obtain ⟨s, r1, r2⟩ := jo2.mp (B w os)
  simp only [Prod.mk.injEq] at r2
  obtain ⟨l1, l2⟩ := r2
  have r3 := B' w os
  rw [r1] at r3
  simp only [Option.map_some, Option.some.injEq, Prod.mk.injEq] at r3
  have r := go_top (A w os) r1
  have E : topFrom treeTable p w (n + M) ⟨boot_heap w.params, Array.mk [], boot_drawn, boot_toks, os⟩ = some s := by
    unfold topFrom
    simp only [z1, z2, z3, Bool.true_and]
    rw [r]
    show (match _ with | true => some s | false => none) = some s
    rw [l1]
  show ((fencedOpening treeTable p w (n + M)).bind (topFrom treeTable p w (n + M))).map _ = _
  rw [e1]
  show (topFrom treeTable p w (n + M) _).map _ = _
  rw [E, ← r3.2]
  exact congrArg (fun x => some (x, Yf s)) (Prod.ext l2 r3.1)
set_option maxHeartbeats 0 in
theorem zs5 : ∀ w os, (topRun treeTable PySem.Challenge.pw_leaperwalk_k21_refusals_stand_apart w 11 (some (.ref 6)) 1114 ⟨MH w.params, #[], boot_drawn, 303, os⟩ MT).map (fun s =>
    ((staticsOk (importedModules PySem.Challenge.pw_leaperwalk_k21_refusals_stand_apart.main.body) (boot_heap w.params) s.heap && namesBound PySem.Challenge.pw_leaperwalk_k21_refusals_stand_apart s.heap && gensDone s && laidKept (boot_heap w.params) s.heap : Bool), (openSeen HQ [] (importedModules PySem.Challenge.pw_leaperwalk_k21_refusals_stand_apart.main.body) (fun s => xlAt HQ [] s && recOk (RowW.records (OpenRow.toRowW (OpenLaw.row PySem.Challenge.rw_leaperwalk_k21_refusals_stand_apart))) s) true s).1)) = some (true, (openGood HQ []).1) := by
  intro w os
  kernel_rfl
set_option maxHeartbeats 0 in
theorem zs6 : ∀ w os, (topRun treeTable PySem.Challenge.pw_leaperwalk_k21_refusals_stand_apart w 11 (some (.ref 6)) 1114 ⟨MH w.params, #[], boot_drawn, 303, os⟩ MT).map (fun s =>
    ((openSeen HQ [] (importedModules PySem.Challenge.pw_leaperwalk_k21_refusals_stand_apart.main.body) (fun s => xlAt HQ [] s && recOk (RowW.records (OpenRow.toRowW (OpenLaw.row PySem.Challenge.rw_leaperwalk_k21_refusals_stand_apart))) s) true s).2, HH.obs s)) = some ((openGood HQ []).2, HH.val w) := by
  intro w os
  kernel_rfl
theorem zrO : LeftO PySem.Challenge.pw_leaperwalk_k21_refusals_stand_apart HQ [] (fun s => xlAt HQ [] s && recOk (RowW.records (OpenRow.toRowW (OpenLaw.row PySem.Challenge.rw_leaperwalk_k21_refusals_stand_apart))) s) HH.obs HH.val (1485 + 1114) :=
  zlA (by kernel_rfl) (by decide) (fun s => by kernel_rfl) (fun P => by kernel_rfl) (fun P => by kernel_rfl) (fun P => by kernel_rfl) zs4 zs5 zs6
end LK
open PySem PySem.W PyProof.Rows
set_option maxRecDepth 100000 in
set_option maxHeartbeats 0 in
theorem PySem.Challenge.cw_leaperwalk_k21_refusals_stand_apart_holds : PySem.Challenge.rw_leaperwalk_k21_refusals_stand_apart.Holds := by
  w_on; o_law
  refine PySem.W.holds_open (XP := XL LK.HQ []) LK.zrO (Hook.of LK.HH) (Hook.keeps LK.HH) (fun s e => xl_of s (Bool.and_eq_true_iff.mp e).1) XL.keeps (by rfl) (by rfl) (by rfl) (fun s e => recFacts_of (Bool.and_eq_true_iff.mp e).2) (by rfl) (by assumption) (by decide +kernel) ⟨rfl, rfl, rfl, rfl, rfl, by decide +kernel⟩ ?hw ?hc
  case hw => w_witness2
  refine L2.ziM (K := LK.HK) (l := PySem.Challenge.rw_leaperwalk_k21_refusals_stand_apart) (n := 63) (k := LK.depth) (x := "_law_script") (CX := L2.CX0) (sp := fun K => L2.LW.spA K (L2.LW.zah LK.U LK.zb5 LK.depth) 102 []) rfl (by decide) rfl ⟨rfl, by decide, by decide⟩ (fun w h Y => Y) ?F ?S ?C
  case F =>
    intro w mg fa h KX G hmg
    have l0 : List.lookup 106 (LK.HK w.params) = some (LK.fo 12 "is_whole" "leaperwalk.floors" 303 105) := by kernel_rfl
    have l1 : List.lookup 113 (LK.HK w.params) = some (LK.fo 13 "is_couple" "leaperwalk.floors" 303 112) := by kernel_rfl
    have l2 : List.lookup 120 (LK.HK w.params) = some (LK.fo 14 "is_cell" "leaperwalk.floors" 303 119) := by kernel_rfl
    have l3 : List.lookup 127 (LK.HK w.params) = some (LK.fo 15 "is_leap" "leaperwalk.floors" 303 126) := by kernel_rfl
    have l4 : List.lookup 132 (LK.HK w.params) = some (LK.fo 16 "is_rising" "leaperwalk.floors" 303 131) := by kernel_rfl
    have l5 : List.lookup 137 (LK.HK w.params) = some (LK.fo 17 "is_floor" "leaperwalk.floors" 303 136) := by kernel_rfl
    have l6 : List.lookup 144 (LK.HK w.params) = some (LK.fo 18 "checked" "leaperwalk.floors" 303 143) := by kernel_rfl
    have l13 : List.lookup 281 (LK.HK w.params) = some (LK.fo 46 "_law_cell" "law_leaperwalk_k21_refusals_stand_apart" 544 280) := by kernel_rfl
    have l86 : List.lookup 229 (LK.HK w.params) = some (LK.fo 35 "shown_line" "leaperwalk.texts" 470 228) := by kernel_rfl
    have l87 : List.lookup 234 (LK.HK w.params) = some (LK.fo 36 "shown" "leaperwalk.texts" 470 233) := by kernel_rfl
    have l98 : List.lookup 241 (LK.HK w.params) = some (LK.fo 37 "cells_in" "leaperwalk.texts" 470 240) := by kernel_rfl
    have l102 : List.lookup 298 (LK.HK w.params) = some (LK.fo 49 "law" "law_leaperwalk_k21_refusals_stand_apart" 544 297) := by kernel_rfl
    have l110 : List.lookup 224 (LK.HK w.params) = some (LK.fo 33 "can_reach" "leaperwalk.endless" 449 223) := by kernel_rfl
    have l112 : List.lookup 151 (LK.HK w.params) = some (LK.fo 19 "checked_leap" "leaperwalk.floors" 303 150) := by kernel_rfl
    have l113 : List.lookup 217 (LK.HK w.params) = some (LK.fo 32 "refuse_far" "leaperwalk.endless" 449 216) := by kernel_rfl
    have l117 : List.lookup 274 (LK.HK w.params) = some (LK.fo 44 "cut_of" "leaperwalk.walks" 504 273) := by kernel_rfl
    have l119 : List.lookup 255 (LK.HK w.params) = some (LK.fo 41 "refuse_big" "leaperwalk.walks" 504 254) := by kernel_rfl
    have l123 : List.lookup 210 (LK.HK w.params) = some (LK.fo 29 "near_cells" "leaperwalk.leaps" 375 209) := by kernel_rfl
    have l133 : List.lookup 158 (LK.HK w.params) = some (LK.fo 20 "checked_cell" "leaperwalk.floors" 303 157) := by kernel_rfl
    have l139 : List.lookup 293 (LK.HK w.params) = some (LK.fo 48 "_law_kinds_of" "law_leaperwalk_k21_refusals_stand_apart" 544 292) := by kernel_rfl
    have l140 : List.lookup 286 (LK.HK w.params) = some (LK.fo 47 "_law_deed" "law_leaperwalk_k21_refusals_stand_apart" 544 285) := by kernel_rfl
    have l141 : List.lookup 248 (LK.HK w.params) = some (LK.fo 38 "read" "leaperwalk.texts" 470 247) := by kernel_rfl
    obtain ⟨F, FD, TK, CL, T, e0, hb⟩ := LK.zoq (t0 := 305) (t1 := 307) (t2 := 309) (t3 := 451) (t4 := 506) (C0 := 24) (C1 := 37) (C2 := 49) (C3 := 61) (C4 := 73) (C5 := 85) (C6 := 97) KX G (by kernel_rfl) l0 (by kernel_rfl) (by kernel_rfl) (by kernel_rfl) l1 (by kernel_rfl) (by kernel_rfl) (by kernel_rfl) l2 (by kernel_rfl) (by kernel_rfl) (by kernel_rfl) l3 (by kernel_rfl) (by kernel_rfl) (by kernel_rfl) l4 (by kernel_rfl) (by kernel_rfl) (by kernel_rfl) l5 (by kernel_rfl) (by kernel_rfl) (by kernel_rfl) l6 (by kernel_rfl) (by kernel_rfl) (by kernel_rfl) l13 (by kernel_rfl) (by kernel_rfl) (by kernel_rfl) l86 (by kernel_rfl) (by kernel_rfl) (by kernel_rfl) l87 (by kernel_rfl) (by kernel_rfl) (by kernel_rfl) l98 (by kernel_rfl) (by kernel_rfl) (by kernel_rfl) l102 (by kernel_rfl) (by kernel_rfl) (by kernel_rfl) l110 (by kernel_rfl) (by kernel_rfl) (by kernel_rfl) l112 (by kernel_rfl) (by kernel_rfl) (by kernel_rfl) l113 (by kernel_rfl) (by kernel_rfl) (by kernel_rfl) l117 (by kernel_rfl) (by kernel_rfl) (by kernel_rfl) l119 (by kernel_rfl) (by kernel_rfl) (by kernel_rfl) l123 (by kernel_rfl) (by kernel_rfl) (by kernel_rfl) l133 (by kernel_rfl) (by kernel_rfl) (by kernel_rfl) l139 (by kernel_rfl) (by kernel_rfl) (by kernel_rfl) l140 (by kernel_rfl) (by kernel_rfl) (by kernel_rfl) l141 (by kernel_rfl) (by kernel_rfl) (by kernel_rfl) (by kernel_rfl) (by kernel_rfl) (by kernel_rfl) (by kernel_rfl) (by kernel_rfl) (by kernel_rfl) (by kernel_rfl) (by kernel_rfl) (by kernel_rfl) (by kernel_rfl) (by kernel_rfl) (by kernel_rfl) (by kernel_rfl) (by kernel_rfl) (by kernel_rfl) (by kernel_rfl) (by kernel_rfl) (by kernel_rfl) (by kernel_rfl) (by kernel_rfl) (by kernel_rfl) (by kernel_rfl) (by kernel_rfl) (by kernel_rfl) (by kernel_rfl) (by kernel_rfl) (by kernel_rfl) (by kernel_rfl) (by kernel_rfl) (by kernel_rfl) (by kernel_rfl) (by kernel_rfl) (by kernel_rfl) (by kernel_rfl) (by kernel_rfl) (by kernel_rfl) (by kernel_rfl) (by kernel_rfl) (by kernel_rfl) (by kernel_rfl)
    have e1 := hmg.symm.trans T.m102
    cases e1
    exact ⟨_, hb, fun base _ _ => LK.zop T LK.depth 102⟩
  case S => exact fun K H a ns hl _ hS => L2.LW.zmW (LK.zeZ ns hl) hS
  case C => exact fun _ _ _ _ z => z
