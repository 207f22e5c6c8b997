import PyProof.Rows.All
import Wide.All
import OpenK.AllK
import Wide.FinOn
import Lean
import PyProof.EqAt
import PyProof.EqKinds
import PyProof.TupleCall
import PyProof.SeqI3
import KE.KTupSum
import KE.LcSums
import KE.KDictSum
import KE.KTryMore
import PyProof.ExcBaseAll.ValueError
import OpenK.KOwn
import KE.RegKTryMore
import KE.RegKIsAll
import PyProof.ListMulRoad
import PyProof.Draws
import PyProof.EnumStmt
import PyProof.EnumMake
import PyProof.StrLawsTight
import PyProof.StrLawsChain
import PyProof.Rows.StrNews
import PyProof.Rows.StrJoin2
import PyProof.Rows.EnumRows
import PyProof.FString
import PyProof.SetKind
import PyProof.Rows.SetFrom
import PySem.Challenge.RW_leaperwalk_k14_paired_or_a_crowd
set_option Elab.async false
set_option linter.all false
set_option maxRecDepth 100000
theorem jo1{a b:Type}{x:Option a}{f:a->Option b}{y:b}:x.bind f=some y↔∃z,x=some z/\f z=some y:=Option.bind_eq_some_iff
theorem jo2{a b:Type}{x:Option a}{f:a->b}{y:b}:x.map f=some y↔∃z,x=some z/\f z=y:=Option.map_eq_some_iff
set_option Elab.async false
set_option maxRecDepth 100000
namespace L2
open PySem PySem.Spec PyProof.Rows
noncomputable abbrev Key:=Sum Int Str
noncomputable def zjX:Key->Value->Bool
 | .inl k,v=>Value.isInt k v
 | .inr x,v=>Value.isStrOf x v
noncomputable def zAr(w:World):Key->Int
 | .inl k=>hashInt k
 | .inr x=>hashStr w x
theorem za5: ∀{k:Key} {v:Value},zjX k v=true->(∃i t,k=Sum.inl i/\v=Value.int i t)\/(∃x t,k=Sum.inr x/\v=Value.str x t)
 | .inl i,v,h=>by
  obtain⟨t,e⟩:=Value.isInt_shape (k:=i) (v:=v) h
  exact .inl ⟨i,t,rfl,e⟩
 | .inr x,v,h=>by
  obtain⟨t,e⟩:=Value.isStrOf_shape (x:=x) (v:=v) h
  exact .inr ⟨x,t,rfl,e⟩
theorem zmw(i:Int)(t:Tok):zjX (.inl i) (.int i t)=true:=by simp[zjX,Value.isInt]
theorem zmx(x:Str)(t:Tok):zjX (.inr x) (.str x t)=true:=by simp[zjX,Value.isStrOf]
theorem zs5(a b:Int):decide ((Sum.inl a:Key)=Sum.inl b)=(a==b):=by
 by_cases e:a=b
 ·subst e;simp
 ·have h: ¬(Sum.inl a:Key)=Sum.inl b:=fun q=>e (Sum.inl.inj q)
  rw[decide_eq_false h]
  exact (beq_eq_false_iff_ne.mpr e).symm
theorem zs6(a b:Str):decide ((Sum.inr a:Key)=Sum.inr b)=decide (a=b):=by
 by_cases e:a=b
 ·subst e;simp
 ·have h: ¬(Sum.inr a:Key)=Sum.inr b:=fun q=>e (Sum.inr.inj q)
  rw[decide_eq_false h,decide_eq_false e]
theorem zs7(a:Int)(b:Str):decide ((Sum.inl a:Key)=Sum.inr b)=false:=decide_eq_false (fun q=>nomatch q)
theorem zs8(a:Str)(b:Int):decide ((Sum.inr a:Key)=Sum.inl b)=false:=decide_eq_false (fun q=>nomatch q)
noncomputable def za6(prog:Program)(w:World):PySem.KeyKind prog w Key where
 is:=zjX
 hash:=zAr w
 inj:=fun v a b ha hb=>by
  rcases za5 ha with ⟨i,t,rfl,rfl⟩|⟨x,t,rfl,rfl⟩
  ·rcases za5 hb with ⟨j,u,rfl,e⟩|⟨y,u,rfl,e⟩
   ·injection e with e1 _;rw[e1]
   ·exact nomatch e
  ·rcases za5 hb with ⟨j,u,rfl,e⟩|⟨y,u,rfl,e⟩
   ·exact nomatch e
   ·injection e with e1 _;rw[e1]
 byValue:=fun k v h=>by
  rcases za5 h with ⟨i,t,rfl,rfl⟩|⟨x,t,rfl,rfl⟩<;>rfl
 pyHash:=fun hv h=>by
  rcases za5 hv with ⟨i,t,rfl,rfl⟩|⟨x,t,rfl,rfl⟩
  ·exact wpAny_pyHash_int h
  ·exact wpAny_pyHash_str h
 eqBool:=fun hu hv h=>by
  rcases za5 hu with ⟨i,t,rfl,rfl⟩|⟨x,t,rfl,rfl⟩
  ·rcases za5 hv with ⟨j,u,rfl,rfl⟩|⟨y,u,rfl,rfl⟩
   ·rw[zs5] at h;exact wpAny_eqBool_int h
   ·rw[zs7] at h;exact SeqAt.EqAt.int_str i t y u _ _ _ _ h
  ·rcases za5 hv with ⟨j,u,rfl,rfl⟩|⟨y,u,rfl,rfl⟩
   ·rw[zs8] at h;exact SeqAt.EqAt.str_int x t j u _ _ _ _ h
   ·rw[zs6] at h;exact wpAny_eqBool_str h
 «strs»:=fun k x t v h=>by
  rcases za5 h with ⟨i,u,rfl,e⟩|⟨y,u,rfl,e⟩
  ·exact nomatch e
  ·injection e with e1 _
   subst e1
   cases v<;>rfl
theorem zjY(prog:Program)(w:World)(i:Int)(t:Tok):(za6 prog w).is (.inl i) (.int i t)=true:=zmw i t
theorem zjZ(prog:Program)(w:World)(x:Str)(t:Tok):(za6 prog w).is (.inr x) (.str x t)=true:=zmx x t
end L2
namespace L2
open PySem PySem.Spec PyProof.Rows
inductive V where
 |non|bl (b:Bool)|int (i:Int)|str (x:Str)|byt (b:Array UInt8)|flt (b:UInt64)|ref (a:Addr)|ty (n:String)
 deriving DecidableEq
noncomputable def RelV:V->Value->Prop
 | .non,u=>u=Value.none
 | .bl b,u=>u=Value.bool b
 | .int i,u=>∃t,u=Value.int i t
 | .str x,u=>∃t,u=Value.str x t
 | .byt b,u=>∃t,u=Value.bytes b t
 | .flt b,u=>∃t,u=Value.float b t
 | .ref a,u=>u=Value.ref a
 | .ty n,u=>u=Value.type n
noncomputable abbrev Vals:List V->List Value->Prop:=Paired RelV
theorem Vals.length{xs:List V}{us:List Value}(r:Vals xs us):xs.length=us.length:=Paired.length r
theorem Vals.get: ∀{xs:List V} {us:List Value} {i:Nat} {x:V},Vals xs us->xs[i]? =some x->∃u,us[i]? =some u/\RelV x u
 |_,_,_,_,.nil,e=>by simp at e
 |_,_,0,_,.cons r _,e=>by simp at e;subst e;exact⟨_,rfl,r⟩
 |_,_,i+1,x,.cons _ t,e=>by
  obtain⟨u,h1,h2⟩:=Vals.get (i:=i) (x:=x) t (by simpa using e)
  exact⟨u,by simpa using h1,h2⟩
theorem Vals.set{x:V}{u:Value}(r:RelV x u): ∀{xs:List V} {us:List Value} (i:Nat),Vals xs us->Vals (xs.set i x) (us.set i u)
 |_,_,_,.nil=>.nil
 |_,_,0,.cons _ t=>.cons r t
 |_,_,i+1,.cons q t=>.cons q (Vals.set r i t)
theorem Vals.append: ∀{xs ys:List V} {us ws:List Value},Vals xs us->Vals ys ws->Vals (xs++ys) (us++ws)
 |_,_,_,_,.nil,s=>s
 |_,_,_,_,.cons r t,s=>.cons r (Vals.append t s)
theorem Vals.take: ∀{xs:List V} {us:List Value} (n:Nat),Vals xs us->Vals (xs.take n) (us.take n)
 |_,_,0,_=>.nil
 |_,_,_+1,.nil=>.nil
 |_,_,n+1,.cons r t=>.cons r (Vals.take n t)
theorem Vals.drop: ∀{xs:List V} {us:List Value} (n:Nat),Vals xs us->Vals (xs.drop n) (us.drop n)
 |_,_,0,r=>r
 |_,_,_+1,.nil=>.nil
 |_,_,n+1,.cons _ t=>Vals.drop n t
noncomputable def RelO:Option V->Option Value->Prop
 |some v,some u=>RelV v u
 |none,none=>True
 |_,_=>False
noncomputable def KV{κ:Type}:List (κ×V)->List (κ×Value)->Prop:=Paired fun (p:κ×V) (q:κ×Value)=>p.1=q.1/\RelV p.2 q.2
noncomputable def kV:Key->V
 | .inl i=>.int i
 | .inr x=>.str x
inductive HO where
 |lst (xs:List V)
 |tup (xs:List V)
 |dK (kvs:List (Key×V))|dT (kvs:List (List Key×V))
 |set (S:Int->Bool) (n:Nat)
 |ins (C dx:Addr) (fs:List (Str×V))
 |own (x:Addr)
 |xd (fs:List (Str×V))
 |met (f x:Addr)
 |rng (lo hi:Int)
 |frz (o:Obj) (u:HO)
 |tbl (ps:Array Value)
 |ext (φ:Heap->Prop)
noncomputable abbrev Hp:=Addr->Option HO
noncomputable def upd(H:Hp)(a:Addr)(o:HO):Hp:=fun b=>if b=a then some o else H b
theorem zbe{H:Hp}{a:Addr}{o:HO}:upd H a o a=some o:=by unfold upd;rw[if_pos rfl]
theorem za9{H:Hp}{a b:Addr}{o:HO}(h:b≠a):upd H a o b=H b:=by unfold upd;rw[if_neg h]
theorem zxM{H:Hp}{a b:Addr}{o u:HO}(h:H a=some o)(h':H b=some u)(d:o≠u):a≠b:=by
 intro e;subst e;rw[h] at h';exact d (Option.some.inj h')
theorem zb3{H:Hp}{a b:Addr}{o:HO}(h:H a=some o)(h':H b=none):a≠b:=by
 intro e;subst e;rw[h] at h';cases h'
section
variable (P:Program) (w:World)
noncomputable def ObjOk(H:Hp)(h:Heap)(a:Addr):HO->Prop
 | .lst xs=>xs.length<=sizeLine/\∃(its:List Value) (n:Nat),Vals xs its/\h.get? a=some { cls:=.type "list",data:=.seq its.toArray n }
 | .tup xs=>xs.length<=sizeLine/\∃its:List Value,Vals xs its/\IsTup h a its.toArray
 | .dK kvs=>kvs.length<=sizeLine/\(a==sysModules)=false/\∃vs,KV kvs vs/\h.DictOf (za6 P w) a vs
 | .dT kvs=>kvs.length<=sizeLine/\(a==sysModules)=false/\∃xs:List (List Key×Addr×Value),
   Paired (fun (p:List Key×V) (q:List Key×Addr×Value)=>p.1=q.1/\H q.2.1=some (.tup (p.1.map kV))/\RelV p.2 q.2.2) kvs xs/\
   ∃o es ep,h.get? a=some o/\o.ExactDict/\o.data= .dict es ep/\es.toList=xs.map (entryOfKey (tupleKind (za6 P w)))/\(xs.map (·.1)).Nodup
 | .set S n=>h.SetOf (intKind P w) a S n
 | .ins C dx fs=>H dx=some (.own a)/\fs.length<=1000/\dx≠a/\h.get? a=some (PySem.W.instObj C dx)/\
   ∃mA,h.Ns1 dx mA/\(∀f,RelO (fs.lookup f) (mA f))/\PySem.Within mA (fs.map (·.1))
 | .own _=>∃o,h.get? a=some o
 | .xd fs=>∃mA,h.Ns1 a mA/\∀f,RelO (fs.lookup f) (mA f)
 | .rng lo hi=>∃t u v,h.get? a=some { cls:=.type "range",data:=.fields #[.int lo t,.int hi u,.int 1 v] }
 | .frz o u=>h.get? a=some o/\ObjOk H h a u
 | .tbl ps=>h.get? a=some { cls:=.none,data:=.fields ps }
 | .met f x=>h.get? a=some (PySem.W.methodObj (.ref f) (.ref x))
 | .ext φ=>φ h/\(∃o,h.get? a=some o)/\∀h1 h2:Heap,φ h1->(∀o,h1.get? a=some o->h2.get? a=some o)->φ h2
noncomputable def HOk(H:Hp)(h:Heap):Prop:=∀a o,H a=some o->ObjOk P w H h a o
end
section
variable {P:Program} {w:World} {H H':Hp} {h h':Heap} {a:Addr} {o:HO}
theorem ObjOk.lt(x:ObjOk P w H h a o):a<h.objs.size:=by
 cases o with
 |lst xs=>obtain⟨_,_,_,_,e⟩:=x;exact Heap.lt_size e
 |tup xs=>obtain⟨_,_,_,p⟩:=x;exact p.lt
 |dK kvs=>obtain⟨_,_,_,_,o,_,_,e,_⟩:=x;exact Heap.lt_size e
 |dT kvs=>obtain⟨_,_,_,_,o,_,_,e,_⟩:=x;exact Heap.lt_size e
 |set S n=>obtain⟨o,_,_,_,e,_⟩:=x;exact Heap.lt_size e
 |ins C dx fs=>obtain⟨_,_,_,e,_⟩:=x;exact Heap.lt_size e
 |own y=>obtain⟨_,e⟩:=x;exact Heap.lt_size e
 |xd fs=>obtain⟨_,⟨_,_,_,e,_⟩,_⟩:=x;exact Heap.lt_size e
 |rng lo hi=>obtain⟨_,_,_,e⟩:=x;exact Heap.lt_size e
 |frz ob u=>obtain⟨e,_⟩:=x;exact Heap.lt_size e
 |tbl ps=>exact Heap.lt_size (show h.get? a=some _ from x)
 |met f y=>exact Heap.lt_size (show h.get? a=some _ from x)
 |ext φ=>obtain⟨_,⟨_,e⟩,_⟩:=x;exact Heap.lt_size e
theorem Paired.mapP{α β:Type}{F G:α->β->Prop}: ∀{l₁:List α} {l₂:List β},Paired F l₁ l₂->(∀a b,F a b->G a b)->Paired G l₁ l₂
 |_,_,.nil,_=>.nil
 |_,_,.cons r t,f=>.cons (f _ _ r) (Paired.mapP t f)
theorem Paired.imp'{α β:Type}{F G:α->β->Prop}(f: ∀a b,F a b->G a b){l₁:List α}{l₂:List β}(r:Paired F l₁ l₂):Paired G l₁ l₂:=Paired.mapP r f
theorem ObjOk.stay(x:ObjOk P w H h a o)(k: ∀b u,(b=a\/H b=some (.own a))->h.get? b=some u->h'.get? b=some u)
  (ho: ∀b,H b=some (.own a)->H' b=some (.own a)) (ht: ∀b xs,H b=some (.tup xs)->H' b=some (.tup xs)):ObjOk P w H' h' a o:=by
 induction o with
 |lst xs=>obtain⟨z,its,n,r,e⟩:=x;exact⟨z,its,n,r,k _ _ (.inl rfl) e⟩
 |tup xs=>obtain⟨z,its,r,ob,e,c⟩:=x;exact⟨z,its,r,ob,k _ _ (.inl rfl) e,c⟩
 |dK kvs=>obtain⟨z,y,vs,r,ob,es,ep,e,c⟩:=x;exact⟨z,y,vs,r,ob,es,ep,k _ _ (.inl rfl) e,c⟩
 |dT kvs=>
  obtain⟨z,y,xs,r,ob,es,ep,e,c⟩:=x
  exact⟨z,y,xs,Paired.mapP r fun p q z=>⟨z.1,ht _ _ z.2.1,z.2.2⟩,ob,es,ep,k _ _ (.inl rfl) e,c⟩
 |set S n=>obtain⟨ob,es,ep,t,e,c⟩:=x;exact⟨ob,es,ep,t,k _ _ (.inl rfl) e,c⟩
 |ins C dx fs=>
  obtain⟨d,z,ne,e,mA,⟨od,es,ep,e2,c⟩,r⟩:=x
  exact⟨ho _ d,z,ne,k _ _ (.inl rfl) e,mA,⟨od,es,ep,k _ _ (.inr d) e2,c⟩,r⟩
 |own y=>obtain⟨ob,e⟩:=x;exact⟨ob,k _ _ (.inl rfl) e⟩
 |xd fs=>obtain⟨mA,⟨od,es,ep,e,c⟩,r⟩:=x;exact⟨mA,⟨od,es,ep,k _ _ (.inl rfl) e,c⟩,r⟩
 |rng lo hi=>obtain⟨t,u,v,e⟩:=x;exact⟨t,u,v,k _ _ (.inl rfl) e⟩
 |frz ob u ih=>obtain⟨e,q⟩:=x;exact⟨k _ _ (.inl rfl) e,ih q⟩
 |tbl ps=>
  have e:h.get? a=some { cls:=.none,data:=.fields ps }:=x
  show h'.get? a=some { cls:=.none,data:=.fields ps }
  exact k a _ (.inl rfl) e
 |met f y=>
  have e:h.get? a=some (PySem.W.methodObj (.ref f) (.ref y)):=x
  show h'.get? a=some (PySem.W.methodObj (.ref f) (.ref y))
  exact k a _ (.inl rfl) e
 |ext φ=>obtain⟨p,⟨o,e⟩,st⟩:=x;exact⟨st _ _ p fun o q=>k _ _ (.inl rfl) q,⟨o,k _ _ (.inl rfl) e⟩,st⟩
theorem HOk.lt(x:HOk P w H h)(e:H a=some o):a<h.objs.size:=(x a o e).lt
theorem HOk.fresh(x:HOk P w H h)(e:h.objs.size<=a):H a=none:=by
 cases q:H a with
 |none=>rfl
 |some u=>exact absurd (Nat.lt_of_lt_of_le (x.lt q) e) (Nat.lt_irrefl _)
theorem HOk.kept(x:HOk P w H h)(k: ∀b u,h.get? b=some u->h'.get? b=some u):HOk P w H h':=fun a o e=>
 (x a o e).stay (fun b u _ q=>k b u q) (fun _ q=>q) fun _ _ q=>q
theorem HOk.laid(x:HOk P w H h)(k: ∀b u,h.get? b=some u->h'.get? b=some u)(hp:h.objs.size<=a)(new:ObjOk P w (upd H a o) h' a o):HOk P w (upd H a o) h':=fun b u e=>by
 have hn:=x.fresh hp
 by_cases hb:b=a
 ·subst hb;rw[zbe] at e;cases e;exact new
 ·rw[za9 hb] at e
  exact (x b u e).stay (fun c v _ q=>k c v q) (fun c q=>by rw[za9 (zb3 q hn)];exact q) fun c xs q=>by rw[za9 (zb3 q hn)];exact q
end
noncomputable def Rd(H:Hp)(a:Addr)(u:HO):Prop:=H a=some u\/∃o,H a=some (.frz o u)
theorem Rd.of{H:Hp}{a:Addr}{u:HO}(h:H a=some u):Rd H a u:=.inl h
theorem Rd.ok{P:Program}{w:World}{H:Hp}{h:Heap}{a:Addr}{u:HO}(r:Rd H a u)(x:HOk P w H h):ObjOk P w H h a u:=by
 rcases r with r|⟨o,r⟩
 ·exact x a u r
 ·obtain⟨_,q⟩:=x a _ r
  exact q
noncomputable def Mut:Option HO->Prop
 |some (.lst _)=>True
 |some (.dK _)=>True
 |some (.dT _)=>True
 |some (.set _ _)=>True
 |some (.ins _ _ _)=>True
 |some (.ext _)=>True
 |_=>False
section
variable {P:Program} {w:World} {H:Hp} {h h':Heap} {x e:Addr} {o':HO}
theorem HOk.write(ok:HOk P w H h)(mu:Mut (H x))(he:e=x\/H e=some (.own x))(k: ∀b u,b≠e->h.get? b=some u->h'.get? b=some u)(heo: ∃u,h'.get? e=some u)
  (new:ObjOk P w (upd H x o') h' x o'):HOk P w (upd H x o') h':=fun b u q=>by
 have nown: ∀c y,H c=some (.own y)->c≠x:=fun c y r z=>by subst z;rw[r] at mu;exact mu
 have ntup: ∀c xs,H c=some (.tup xs)->c≠x:=fun c xs r z=>by subst z;rw[r] at mu;exact mu
 by_cases hb:b=x
 ·subst hb;rw[zbe] at q;cases q;exact new
 ·rw[za9 hb] at q
  by_cases hbe:b=e
  ·have q':H b=some (.own x):=by
    rcases he with z|z
    ·exact absurd (hbe.trans z) hb
    ·rw[hbe];exact z
   rw[q] at q';cases q'
   obtain⟨v,hv⟩:=heo
   exact⟨v,by rw[hbe];exact hv⟩
  ·refine (ok b u q).stay (fun c v hc r=>k c v ?_ r) (fun c r=>by rw[za9 (nown c b r)];exact r) fun c xs r=>by rw[za9 (ntup c xs r)];exact r
   rcases hc with rfl|hc
   ·exact hbe
   ·rintro rfl
    rcases he with z|z
    ·exact nown c b hc z
    ·rw[hc] at z;cases z;exact hb rfl
end
structure Un (fs ex:List Addr)(H H':Hp)(h h':Heap):Prop where
 keep: ∀b o,h.get? b=some o->H b=none->b∉fs->b∉ex->h'.get? b=some o
 slot: ∀b o,h.get? b=some o->H b=none->b∈fs->b∉ex->∃sl,h'.get? b=some { o with slots:=sl }
 free: ∀b o,h.get? b=some o->H b=none->b∉ex->H' b=none
 there: ∀b o,h.get? b=some o->b∉ex->∃o',h'.get? b=some o'
 tups: ∀b xs,H b=some (.tup xs)->H' b=some (.tup xs)
 frzs: ∀b o u,H b=some (.frz o u)->H' b=some (.frz o u)
 tbls: ∀b ps,H b=some (.tbl ps)->∃more,H' b=some (.tbl (ps++more))
section
variable {fs fs' ex ex':List Addr} {H H1 H2:Hp} {h h1 h2 h':Heap} {a x e:Addr} {o:HO}
theorem Un.any(u:Un fs ex H H1 h h1){b:Addr}{ob:Obj}(q:h.get? b=some ob)(n:H b=none)(hx:b∉ex): ∃sl,h1.get? b=some { ob with slots:=sl }:=by
 by_cases hb:b∈fs
 ·exact u.slot b ob q n hb hx
 ·exact⟨ob.slots,u.keep b ob q n hb hx⟩
theorem Un.trans(a:Un fs ex H H1 h h1)(b:Un fs ex H1 H2 h1 h2):Un fs ex H H2 h h2 where
 keep:=fun c ob q n hc hx=>b.keep c ob (a.keep c ob q n hc hx) (a.free c ob q n hx) hc hx
 slot:=fun c ob q n hc hx=>by
  obtain⟨sl,e1⟩:=a.slot c ob q n hc hx
  obtain⟨sl',e2⟩:=b.slot c _ e1 (a.free c ob q n hx) hc hx
  exact⟨sl',e2⟩
 free:=fun c ob q n hx=>by
  obtain⟨o',e1⟩:=a.there c ob q hx
  exact b.free c o' e1 (a.free c ob q n hx) hx
 there:=fun c ob q hx=>by
  obtain⟨o',e1⟩:=a.there c ob q hx
  exact b.there c o' e1 hx
 tups:=fun c xs q=>b.tups c xs (a.tups c xs q)
 frzs:=fun c ob xs q=>b.frzs c ob xs (a.frzs c ob xs q)
 tbls:=fun c ps q=>by
  obtain⟨m1,e1⟩:=a.tbls c ps q
  obtain⟨m2,e2⟩:=b.tbls c _ e1
  exact⟨m1++m2,by rw[e2,Array.append_assoc]⟩
theorem Un.kept(k: ∀b u,h.get? b=some u->h'.get? b=some u):Un fs ex H H h h':=
 ⟨fun b ob q _ _ _=>k b ob q,fun b ob q _ _ _=>⟨ob.slots,k b ob q⟩,fun _ _ _ n _=>n,fun b ob q _=>⟨ob,k b ob q⟩,fun _ _ q=>q,fun _ _ _ q=>q,fun _ ps q=>⟨#[],by rw[q];simp⟩⟩
theorem Un.refl:Un fs ex H H h h:=Un.kept fun _ _ q=>q
theorem Un.laid(k: ∀b u,h.get? b=some u->h'.get? b=some u)(hp:h.objs.size<=a)(hn:H a=none):Un fs ex H (upd H a o) h h' where
 keep:=fun b u q _ _ _=>k b u q
 slot:=fun b u q _ _ _=>⟨u.slots,k b u q⟩
 free:=fun b u q n _=>by rw[za9 (Nat.ne_of_lt (Nat.lt_of_lt_of_le (Heap.lt_size q) hp))];exact n
 there:=fun b u q _=>⟨u,k b u q⟩
 tups:=fun b xs q=>by rw[za9 (zb3 q hn)];exact q
 frzs:=fun b u xs q=>by rw[za9 (zb3 q hn)];exact q
 tbls:=fun b ps q=>⟨#[],by rw[za9 (zb3 q hn),q];simp⟩
theorem Un.write(mu:Mut (H x))(he:e=x\/H e=some (.own x))(k: ∀b u,b≠e->h.get? b=some u->h'.get? b=some u)(heo: ∃u,h'.get? e=some u):Un fs ex H (upd H x o) h h':=by
 have hx: ∀b,H b=none->b≠x:=fun b n z=>by subst z;rw[n] at mu;exact mu
 have hb: ∀b,H b=none->b≠e:=fun b n z=>by
  subst z
  rcases he with r|r
  ·exact hx b n r
  ·rw[n] at r;cases r
 have hm: ∀b u,H b=some u->¬Mut (some u)->b≠x:=fun b u q nm z=>by subst z;rw[q] at mu;exact nm mu
 refine⟨fun b u q n _ _=>k b u (hb b n) q,fun b u q n _ _=>⟨u.slots,k b u (hb b n) q⟩,fun b u q n _=>by rw[za9 (hx b n)];exact n,fun b u q _=>?_,
  fun b xs q=>by rw[za9 (hm b _ q fun z=>z)];exact q,fun b u xs q=>by rw[za9 (hm b _ q fun z=>z)];exact q,fun b ps q=>⟨#[],by rw[za9 (hm b _ q fun z=>z),q];simp⟩⟩
 by_cases hbe:b=e
 ·subst hbe;exact heo
 ·exact⟨u,k b u hbe q⟩
theorem Un.mono(u:Un fs ex H H1 h h1)(hs: ∀b∈fs,b∈fs')(hx: ∀b∈ex,b∈ex'):Un fs' ex' H H1 h h1:=
 ⟨fun b ob q n hb he=>u.keep b ob q n (fun z=>hb (hs b z)) fun z=>he (hx b z),fun _ _ q n _ he=>u.any q n fun z=>he (hx _ z),fun b ob q n he=>u.free b ob q n fun z=>he (hx b z),fun b ob q he=>u.there b ob q fun z=>he (hx b z),u.tups,u.frzs,u.tbls⟩
end
noncomputable def trk(h:Heap)(H:Hp):List Addr:=(List.range h.objs.size).filter fun a=>(H a).isSome
noncomputable def zo0(h:Heap)(H:Hp):Heap:=PySem.W.hideAll h (trk h H)
theorem zmy(h:Heap)(H:Hp):(zo0 h H).objs.size=h.objs.size:=PySem.W.hideAll_size _ _
theorem zo1{h:Heap}{H:Hp}{b:Addr}{o:Obj}(e:h.get? b=some o)(n:H b=none):(zo0 h H).get? b=some o:=
 PySem.W.hideAll_get _ e fun hm=>by
  have q:(H b).isSome=true:=(List.mem_filter.mp hm).2
  rw[n] at q;simp at q
theorem zrb{h:Heap}{H:Hp}{b:Addr}{o:Obj}(e:(zo0 h H).get? b=some o):h.get? b=some o/\H b=none:=by
 have e':h.get? b=some o:=PySem.W.of_hideAll (trk h H) e
 refine⟨e',?_⟩
 cases q:H b with
 |none=>rfl
 |some x=>
  have hm:b∈trk h H:=List.mem_filter.mpr ⟨List.mem_range.mpr (Heap.lt_size e'),by simp[q]⟩
  have z:(zo0 h H).get? b=none:=PySem.W.hideAll_none (trk h H) hm
  rw[z] at e;cases e
noncomputable def zrc(g h:Heap)(L:Addr):List (Addr×Obj):=(List.range h.objs.size).filterMap fun a=>if a=L\/(g.get? a).isSome=true then none else (h.get? a).map fun o=>(a,o)
noncomputable def zch(g h:Heap)(L d:Addr):List (Addr×Obj):=(zrc g h L).filter fun p=>decide (p.1≠d)
end L2
namespace L2
open PySem PySem.Spec PyProof.Rows
structure Mod (K:PySem.W.Frag)(mg:Str->Option Value)(base:Heap):Prop where
 kin:K.In base
 glob:base.Ns mainGlobals mg
 blt: ∃mb,base.Ns builtinsNs mb/\∀x:Str,x≠"__name__"->mb x=bootBuiltins x
 nolimit:base.NoLimit
structure Cx where
 prog:Program
 w:World
 K:PySem.W.Frag
 mg:Str->Option Value
 base:Heap
 A:Around
 N:List Str
 s₀:Shared
 H₀:Hp
 env:Env
 outer:List Env
 stack:List Env
 ex:List Addr
 fn:Str->Bool
 calm:Bool
 pn:List (Addr×Obj)
 xe:Value->Shared->Prop
noncomputable def frs(l:List Env):List Addr:=l.filterMap (·.frame)
noncomputable abbrev Cx.fs(X:Cx):List Addr:=frs X.outer
noncomputable def Vis(sc:Scope)(x:Str):Prop:=sc.names.lookup x=some .local\/sc.names.lookup x=some .cell\/sc.names.lookup x=some .free
noncomputable def Loc(sc:Scope)(x:Str):Prop:=sc.names.lookup x=some .local\/sc.names.lookup x=some .cell
noncomputable def zAs(env:Env)(h:Heap)(m:Str->Option Value)(x:Str)(u:Value):Prop:=
 (env.kindOf x=some .local/\m x=some u)\/((env.kindOf x=some .cell\/env.kindOf x=some .free)/\∃c,env.cells.lookup x=some c/\h.IsCell c (some u))
structure Cx.Ok (X:Cx):Prop where
 mod:Mod X.K X.mg X.base
 kind:X.env.scope.kind= .function
 glob:X.env.globals=mainGlobals
 blt:X.env.builtins=builtinsNs
 above:X.s₀.heap.objs.size<=X.env.locals
 inj: ∀x y c,X.env.cells.lookup x=some c->X.env.cells.lookup y=some c->x=y
 has: ∀x,(X.env.kindOf x=some .cell\/X.env.kindOf x=some .free)->∃c,X.env.cells.lookup x=some c
 cab: ∀x c,X.fn x=true->X.env.cells.lookup x=some c->X.s₀.heap.objs.size<=c
 hd:X.calm=true->X.A.handled=none
 frames:X.A.frames=some X.stack
 stk:X.stack=X.outer\/(X.stack=X.env::X.outer/\X.env.frame=some X.env.locals)
 exf: ∀b∈X.ex,b≠X.env.locals/\∀x c,X.env.cells.lookup x=some c->c≠b
 bs: ∀b o,X.base.get? b=some o->X.s₀.heap.get? b=some o/\X.H₀ b=none
 bsz:X.base.objs.size<=X.s₀.heap.objs.size
 noex: ∀b o,X.base.get? b=some o->b∉X.ex
 exfs: ∀b∈X.ex,b∉X.fs
 funs:X.s₀.heap.FunFrames X.base X.outer
 frf: ∀b∈X.fs,X.H₀ b=none
structure Inv (X:Cx)(pins:List (Addr×Obj))(σ:List (Option V))(H:Hp)(s:Shared):Prop where
 ok:X.Ok
 os:s.os=X.s₀.os
 bare:AllBare s.gens
 base:Un X.fs X.ex X.H₀ H X.s₀.heap s.heap
 loc: ∃m,s.heap.Ns X.env.locals m/\∀(i:Nat) (x:Str) (v:V),X.N[i]? =some x->σ[i]? =some (some v)->Vis X.env.scope x->∃u,RelV v u/\zAs X.env s.heap m x u
 cell: ∀x c,X.env.cells.lookup x=some c->∃v,s.heap.IsCell c v
 free:H X.env.locals=none
 freeC: ∀x c,X.env.cells.lookup x=some c->H c=none
 pin: ∀p∈X.pn++pins,s.heap.get? p.1=some p.2/\H p.1=none/\p.1≠X.env.locals/\p.1∉X.fs/\∀v,p.2.data≠ .cell v
 hok:HOk X.prog X.w H s.heap
 len:σ.length=X.N.length
section
variable {X:Cx} {pins:List (Addr×Obj)} {σ:List (Option V)} {H H':Hp} {s:Shared} {h':Heap}
theorem Cx.Ok.nofr(ok:X.Ok){b:Addr}{o:Obj}(e:X.base.get? b=some o):b∉X.fs:=fun hb=>by
 have:=(ok.funs.mem hb).1
 rw[e] at this;cases this
theorem Inv.bs(I:Inv X pins σ H s): ∀b o,X.base.get? b=some o->s.heap.get? b=some o/\H b=none:=fun b o e=>
 ⟨I.base.keep b o (I.ok.bs b o e).1 (I.ok.bs b o e).2 (I.ok.nofr e) (I.ok.noex b o e),I.base.free b o (I.ok.bs b o e).1 (I.ok.bs b o e).2 (I.ok.noex b o e)⟩
theorem Inv.bk(I:Inv X pins σ H s): ∀b o,X.base.get? b=some o->s.heap.get? b=some o:=fun b o e=>(I.bs b o e).1
theorem Inv.mod(I:Inv X pins σ H s):Mod X.K X.mg X.base:=I.ok.mod
theorem Inv.kIn(I:Inv X pins σ H s):X.K.In s.heap:=I.ok.mod.kin.keeps I.bk
theorem Inv.nolimit(I:Inv X pins σ H s):s.heap.NoLimit:=I.ok.mod.nolimit.keeps I.bk
theorem Inv.fr(I:Inv X pins σ H s): ∃m,Fr X.base X.env.locals s.heap m:=
 let ⟨m,hn,_⟩:=I.loc
 ⟨m,hn,I.bk,Nat.le_trans I.ok.bsz I.ok.above⟩
theorem Inv.lt(I:Inv X pins σ H s):X.env.locals<s.heap.objs.size:=let ⟨_,hn,_⟩:=I.loc;hn.lt
theorem Inv.sz(I:Inv X pins σ H s):X.s₀.heap.objs.size<=s.heap.objs.size:=Nat.le_trans I.ok.above (Nat.le_of_lt I.lt)
theorem Inv.nofs(I:Inv X pins σ H s){a:Addr}(h:s.heap.objs.size<=a):a∉X.fs:=fun hb=>by
 obtain⟨_,o,ho,_⟩:=I.ok.funs.mem hb
 exact absurd (Nat.lt_of_lt_of_le (Heap.lt_size ho) (Nat.le_trans I.sz h)) (Nat.lt_irrefl _)
theorem Inv.cne(I:Inv X pins σ H s): ∀x c,X.env.cells.lookup x=some c->c≠X.env.locals:=fun x c e z=>by
 obtain⟨v,o,ho,hd⟩:=I.cell x c e
 obtain⟨m,⟨o',es,ep,ho',hd',_⟩,_⟩:=I.loc
 rw[z,ho'] at ho;cases ho;rw[hd'] at hd;cases hd
theorem Inv.funs(I:Inv X pins σ H s):s.heap.FunFrames X.base X.outer:=by
 have all: ∀(l:List Env),(∀b∈frs l,b∈X.fs)->X.s₀.heap.FunFrames X.base l->s.heap.FunFrames X.base l:=by
  intro l
  induction l with
  |nil=>intro _ _;trivial
  |cons env r ih=>
   intro hs hl
   obtain⟨hk,⟨L,o,hf,hn,ho,hd⟩,hr⟩:=hl
   have hL:L∈X.fs:=hs L (by unfold frs;rw[List.filterMap_cons,hf];exact List.mem_cons_self)
   obtain⟨sl,e⟩:=I.base.slot L o ho (I.ok.frf L hL) hL fun z=>I.ok.exfs L z hL
   exact⟨hk,⟨L,_,hf,hn,e,hd⟩,ih (fun b hb=>hs b (by unfold frs;rw[List.filterMap_cons,hf];exact List.mem_cons_of_mem _ hb)) hr⟩
 exact all X.outer (fun _ hb=>hb) I.ok.funs
theorem Inv.stack(I:Inv X pins σ H s):s.heap.FunFrames X.base X.stack:=by
 rcases I.ok.stk with e|⟨e,hf⟩
 ·rw[e];exact I.funs
 ·rw[e]
  obtain⟨m,hn,_⟩:=I.loc
  refine .cons (by rw[I.ok.kind];decide) hf hn ?_ I.funs
  exact Heap.get?_none_of_le (Nat.le_trans I.ok.bsz I.ok.above)
theorem Inv.stkSub(I:Inv X pins σ H s): ∀b∈frs X.stack,b∈X.env.locals::X.fs:=fun b hb=>by
 rcases I.ok.stk with e|⟨e,hf⟩
 ·rw[e] at hb;exact List.mem_cons_of_mem _ hb
 ·rw[e] at hb
  unfold frs at hb
  rw[List.filterMap_cons,hf] at hb
  exact hb
theorem Inv.stkFree(I:Inv X pins σ H s): ∀b∈frs X.stack,H b=none:=fun b hb=>by
 rcases List.mem_cons.mp (I.stkSub b hb) with e|hb
 ·rw[e];exact I.free
 ·obtain⟨_,o,ho,_⟩:=I.ok.funs.mem hb
  exact I.base.free b o ho (I.ok.frf b hb) fun z=>I.ok.exfs b z hb
theorem Inv.step{g':Array GenState}{t':Nat}{d':Drawn}{ch:List Addr}(I:Inv X pins σ H s)
  (hch: ∀b∈ch,(b∈X.ex\/X.s₀.heap.objs.size<=b)/\b≠X.env.locals/\(∀x c,X.env.cells.lookup x=some c->c≠b)/\∀p∈X.pn++pins,p.1≠b)
  (keep: ∀b o,b≠X.env.locals->b∉X.fs->b∉ch->s.heap.get? b=some o->H b=none->h'.get? b=some o)
  (slot: ∀b o,b≠X.env.locals->b∈X.fs->b∉ch->s.heap.get? b=some o->H b=none->∃sl,h'.get? b=some { o with slots:=sl }) (free: ∀b o,b∉ch->s.heap.get? b=some o->H b=none->H' b=none)
  (there: ∀b o,b∉ch->s.heap.get? b=some o->∃o',h'.get? b=some o')
  (tups: ∀b xs,H b=some (.tup xs)->H' b=some (.tup xs)) (frzs: ∀b o u,H b=some (.frz o u)->H' b=some (.frz o u)) (tbls: ∀b ps,H b=some (.tbl ps)->∃more,H' b=some (.tbl (ps++more)))
  (ns: ∀m,s.heap.Ns X.env.locals m->h'.Ns X.env.locals m) (hok:HOk X.prog X.w H' h') (hg:AllBare g'):
  Inv X pins σ H' { s with heap:=h',gens:=g',drawn:=d',toks:=t' }:=by
 have neL: ∀b o,X.s₀.heap.get? b=some o->b≠X.env.locals:=fun b o e=>Nat.ne_of_lt (Nat.lt_of_lt_of_le (Heap.lt_size e) I.ok.above)
 have neC: ∀b o,X.s₀.heap.get? b=some o->b∉X.ex->b∉ch:=fun b o e hx hb=>by
  rcases (hch b hb).1 with z|z
  ·exact hx z
  ·exact absurd (Nat.lt_of_lt_of_le (Heap.lt_size e) z) (Nat.lt_irrefl _)
 have cellK: ∀x c,X.env.cells.lookup x=some c->∀v,s.heap.IsCell c v->h'.IsCell c v:=fun x c e v ⟨o,ho,hd⟩=>by
  have nch:c∉ch:=fun z=>(hch c z).2.2.1 x c e rfl
  by_cases hc:c∈X.fs
  ·obtain⟨sl,q⟩:=slot c o (I.cne x c e) hc nch ho (I.freeC x c e)
   exact⟨_,q,hd⟩
  ·exact⟨o,keep c o (I.cne x c e) hc nch ho (I.freeC x c e),hd⟩
 refine⟨I.ok,I.os,hg,⟨fun b o e n hb hx=>?_,fun b o e n hb hx=>?_,fun b o e n hx=>?_,fun b o e hx=>?_,fun b xs e=>tups b xs (I.base.tups b xs e),fun b o xs e=>frzs b o xs (I.base.frzs b o xs e),fun b ps e=>?_⟩,?_,fun x c e=>?_,?_,fun x c e=>?_,fun p hp=>?_,hok,I.len⟩
 ·exact keep b o (neL b o e) hb (neC b o e hx) (I.base.keep b o e n hb hx) (I.base.free b o e n hx)
 ·obtain⟨sl,e1⟩:=I.base.slot b o e n hb hx
  obtain⟨sl',e2⟩:=slot b _ (neL b o e) hb (neC b o e hx) e1 (I.base.free b o e n hx)
  exact⟨sl',e2⟩
 ·obtain⟨o',e1⟩:=I.base.there b o e hx
  exact free b o' (neC b o e hx) e1 (I.base.free b o e n hx)
 ·obtain⟨o',e1⟩:=I.base.there b o e hx
  exact there b o' (neC b o e hx) e1
 ·obtain⟨m1,e1⟩:=I.base.tbls b ps e
  obtain⟨m2,e2⟩:=tbls b _ e1
  exact⟨m1++m2,by rw[e2,Array.append_assoc]⟩
 ·obtain⟨m,hn,hl⟩:=I.loc
  refine⟨m,ns m hn,fun i x v e1 e2 e3=>?_⟩
  obtain⟨u,r,l⟩:=hl i x v e1 e2 e3
  refine⟨u,r,?_⟩
  rcases l with l|⟨k,c,e,z⟩
  ·exact .inl l
  ·exact .inr ⟨k,c,e,cellK x c e _ z⟩
 ·obtain⟨v,z⟩:=I.cell x c e
  exact⟨v,cellK x c e v z⟩
 ·obtain⟨m,⟨o,_,_,ho,_⟩,_⟩:=I.loc
  exact free _ o (fun z=>(hch _ z).2.1 rfl) ho I.free
 ·obtain⟨v,o,ho,hd⟩:=I.cell x c e
  exact free c o (fun z=>(hch c z).2.2.1 x c e rfl) ho (I.freeC x c e)
 ·obtain⟨e,n,ne,nf,d⟩:=I.pin p hp
  have nch:p.1∉ch:=fun z=>(hch p.1 z).2.2.2 p hp rfl
  exact⟨keep p.1 p.2 ne nf nch e n,free p.1 p.2 nch e n,ne,nf,d⟩
theorem Inv.un{t':Nat}(I:Inv X pins σ H s)(u:Un X.fs [] H H' s.heap h')(hok:HOk X.prog X.w H' h'):Inv X pins σ H' { s with heap:=h',toks:=t' }:=by
 obtain⟨m,⟨o,es,ep,ho,r⟩,_⟩:=id I.loc
 obtain⟨sl,hL⟩:=u.any ho I.free (by simp)
 exact I.step (g':=s.gens) (d':=s.drawn) (ch:=[]) (fun _ z=>nomatch z) (fun b o _ hb _ e n=>u.keep b o e n hb (by simp)) (fun b o _ hb _ e n=>u.slot b o e n hb (by simp)) (fun b o _ e n=>u.free b o e n (by simp)) (fun b o _ e=>u.there b o e (by simp)) u.tups u.frzs u.tbls (fun m' hm=>by
  obtain⟨o',es',ep',ho',r'⟩:=hm
  rw[ho] at ho';cases ho'
  exact⟨_,es',ep',hL,r'⟩) hok I.bare
theorem Inv.call{g':Array GenState}{t':Nat}{d':Drawn}{ch:List Addr}(I:Inv X pins σ H s)(u:Un (frs X.stack) ch H H' s.heap h')(hok:HOk X.prog X.w H' h')(hg:AllBare g')
  (hch: ∀b∈ch,(b∈X.ex\/X.s₀.heap.objs.size<=b)/\b≠X.env.locals/\(∀x c,X.env.cells.lookup x=some c->c≠b)/\∀p∈X.pn++pins,p.1≠b):
  Inv X pins σ H' { s with heap:=h',gens:=g',drawn:=d',toks:=t' }:=by
 obtain⟨m,⟨o,es,ep,ho,r⟩,_⟩:=id I.loc
 obtain⟨sl,hL⟩:=u.any ho I.free fun z=>(hch _ z).2.1 rfl
 exact I.step (ch:=ch) hch (fun b o hL hb hc e n=>u.keep b o e n (fun z=>(List.mem_cons.mp (I.stkSub b z)).elim hL hb) hc) (fun b o _ _ hc e n=>u.any e n hc) (fun b o hc e n=>u.free b o e n hc) (fun b o hc e=>u.there b o e hc) u.tups u.frzs u.tbls (fun m' hm=>by
  obtain⟨o',es',ep',ho',r'⟩:=hm
  rw[ho] at ho';cases ho'
  exact⟨_,es',ep',hL,r'⟩) hok hg
theorem Inv.turned{t':Nat}{it:Addr}(I:Inv X pins σ H s)(k: ∀b o,b≠it->s.heap.get? b=some o->h'.get? b=some o)(hn:H it=none)(hL:it≠X.env.locals)
  (h1:it∈X.ex\/X.s₀.heap.objs.size<=it) (h2: ∀x c,X.env.cells.lookup x=some c->c≠it) (h3: ∀p∈X.pn++pins,p.1≠it):Inv X pins σ H { s with heap:=h',toks:=t' }:=by
 have nit: ∀b u,H b=some u->b≠it:=fun b u e z=>by rw[z,hn] at e;cases e
 refine I.step (g':=s.gens) (d':=s.drawn) (ch:=[it]) (fun b hb=>?_) (fun b o _ _ hc e _=>k b o (fun z=>hc (by simp[z])) e) (fun b o _ _ hc e _=>⟨o.slots,k b o (fun z=>hc (by simp[z])) e⟩) (fun _ _ _ _ n=>n)
  (fun b o hc e=>⟨o,k b o (fun z=>hc (by simp[z])) e⟩) (fun _ _ e=>e) (fun _ _ _ e=>e) (fun b ps e=>⟨#[],by rw[e];simp⟩) (fun m hm=>?_) (fun b u e=>?_) I.bare
 ·have e:b=it:=by simpa using hb
  subst e
  exact⟨h1,hL,h2,h3⟩
 ·obtain⟨o,es,ep,ho,r⟩:=hm
  exact⟨o,es,ep,k _ o (Ne.symm hL) ho,r⟩
 ·refine (I.hok b u e).stay (fun c v hc q=>k c v ?_ q) (fun _ q=>q) fun _ _ q=>q
  rcases hc with z|z
  ·rw[z];exact nit b u e
  ·exact nit c _ z
theorem Inv.tok(I:Inv X pins σ H s)(t:Nat):Inv X pins σ H { s with toks:=t }:=I.un (h':=s.heap) (t':=t) Un.refl I.hok
theorem Inv.kept{t':Nat}(I:Inv X pins σ H s)(k: ∀b u,s.heap.get? b=some u->h'.get? b=some u):Inv X pins σ H { s with heap:=h',toks:=t' }:=I.un (Un.kept k) (I.hok.kept k)
theorem Inv.laid{a:Addr}{o:HO}{t':Nat}(I:Inv X pins σ H s)(k: ∀b u,s.heap.get? b=some u->h'.get? b=some u)(hp:s.heap.objs.size<=a)(new:ObjOk X.prog X.w (upd H a o) h' a o):
  Inv X pins σ (upd H a o) { s with heap:=h',toks:=t' }:=I.un (Un.laid k hp (I.hok.fresh hp)) (I.hok.laid k hp new)
theorem Inv.write{x e:Addr}{o:HO}{t':Nat}(I:Inv X pins σ H s)(mu:Mut (H x))(he:e=x\/H e=some (.own x))(k: ∀b u,b≠e->s.heap.get? b=some u->h'.get? b=some u)(heo: ∃u,h'.get? e=some u)
  (new:ObjOk X.prog X.w (upd H x o) h' x o):Inv X pins σ (upd H x o) { s with heap:=h',toks:=t' }:=I.un (Un.write mu he k heo) (I.hok.write mu he k heo new)
theorem Inv.pins_of{pins':List (Addr×Obj)}(I:Inv X pins σ H s)(h: ∀p∈pins',s.heap.get? p.1=some p.2/\H p.1=none/\p.1≠X.env.locals/\p.1∉X.fs/\∀v,p.2.data≠ .cell v):Inv X pins' σ H s:=
 ⟨I.ok,I.os,I.bare,I.base,I.loc,I.cell,I.free,I.freeC,fun p hp=>(List.mem_append.mp hp).elim (fun z=>I.pin p (List.mem_append_left _ z)) (h p),I.hok,I.len⟩
theorem zkF{N:List Str}(hN:N.Nodup){i j:Nat}{x:Str}(a:N[i]? =some x)(b:N[j]? =some x):i=j:=by
 obtain⟨h1,e1⟩:=List.getElem?_eq_some_iff.mp a
 obtain⟨h2,e2⟩:=List.getElem?_eq_some_iff.mp b
 exact (List.getElem_inj hN).mp (e1.trans e2.symm)
theorem zis{M:Model}{A:Around}{E:Value->Shared->Prop}{i:Nat}{x:Str}{v:V}{u:Value}{Q:Unit->Shared->Prop}(I:Inv X pins σ H s)(hN:X.N.Nodup)(hi:X.N[i]? =some x)(hx:Loc X.env.scope x)(r:RelV v u)
  (h: ∀s',Inv X pins (σ.set i (some v)) H s'->(∃a,Heap.SameBut a s.heap s'.heap/\(a=X.env.locals\/X.env.cells.lookup x=some a))->Q () s') (hf:X.fn x=true\/X.env.scope.names.lookup x=some .local:=by first|exact .inl rfl|exact .inr rfl|assumption):wpAny M A (storeName X.env x u) Q E s:=by
 obtain⟨m,hn,hl⟩:=id I.loc
 have hcls:(X.env.scope.kind== .class||(X.env.scope.kind== .module&&X.env.locals != X.env.globals))=false:=by rw[I.ok.kind];rfl
 have hiσ:i<σ.length:=by rw[I.len];exact (List.getElem?_eq_some_iff.mp hi).1
 have cne:=I.cne
 have tracked: ∀{a:Addr} {h':Heap},(∃o,s.heap.get? a=some o/\H a=none)->Heap.SameBut a s.heap h'->HOk X.prog X.w H h':=fun {a h'} ha hs b ob e=>by
  obtain⟨_,_,hfree⟩:=ha
  refine (I.hok b ob e).stay (fun c w' hc q=>(hs.2 c ?_).trans q) (fun _ q=>q) fun _ _ q=>q
  rintro rfl
  rcases hc with rfl|hc
  ·rw[hfree] at e;cases e
  ·rw[hfree] at hc;cases hc
 rcases hx with hk|hk
 ·refine wpAny_storeName_local hk hn (fun h' hn' hs=>?_) hcls
  obtain⟨oL,_,_,hoL,_⟩:=id hn
  refine h _ ⟨I.ok,I.os,I.bare,⟨fun b o e n hb hx=>?_,fun b o e n hb hx=>?_,I.base.free,fun b o e hx=>?_,I.base.tups,I.base.frzs,I.base.tbls⟩,⟨_,hn',fun j y v' e1 e2 e3=>?_⟩,fun y c e=>?_,I.free,I.freeC,fun p hp=>?_,tracked ⟨oL,hoL,I.free⟩ hs,by simpa using I.len⟩ ⟨_,hs,.inl rfl⟩
  ·exact (hs.2 b (Nat.ne_of_lt (Nat.lt_of_lt_of_le (Heap.lt_size e) I.ok.above))).trans (I.base.keep b o e n hb hx)
  ·obtain⟨sl,e1⟩:=I.base.slot b o e n hb hx
   exact⟨sl,(hs.2 b (Nat.ne_of_lt (Nat.lt_of_lt_of_le (Heap.lt_size e) I.ok.above))).trans e1⟩
  ·obtain⟨o',e1⟩:=I.base.there b o e hx
   exact⟨o',(hs.2 b (Nat.ne_of_lt (Nat.lt_of_lt_of_le (Heap.lt_size e) I.ok.above))).trans e1⟩
  ·by_cases hj:j=i
   ·subst hj
    rw[hi] at e1;cases e1
    rw[List.getElem?_set_self hiσ] at e2
    cases e2
    exact⟨u,r,.inl ⟨hk,by simp⟩⟩
   ·rw[List.getElem?_set_ne (Ne.symm hj)] at e2
    obtain⟨u',r',q⟩:=hl j y v' e1 e2 e3
    refine⟨u',r',?_⟩
    rcases q with ⟨k,e⟩|⟨k,c,e,z⟩
    ·refine .inl ⟨k,?_⟩
     have:y≠x:=fun e=>hj (zkF hN e1 (e▸hi))
     simp[this,e]
    ·exact .inr ⟨k,c,e,z.sameBut hs (cne y c e)⟩
  ·obtain⟨w',z⟩:=I.cell y c e
   exact⟨w',z.sameBut hs (cne y c e)⟩
  ·obtain⟨e,n,ne,nf,d⟩:=I.pin p hp
   exact⟨(hs.2 p.1 ne).trans e,n,ne,nf,d⟩
 ·have hfn:X.fn x=true:=by
   rcases hf with z|z
   ·exact z
   ·rw[z] at hk;cases hk
  obtain⟨c,hc⟩:=I.ok.has x (.inl hk)
  obtain⟨w',z⟩:=I.cell x c hc
  refine wpAny_storeName_cell I.ok.kind hk hc z (fun h' hc' hs=>?_)
  obtain⟨oc,hoc,hocd⟩:=id z
  refine h { s with heap:=h' } ⟨I.ok,I.os,I.bare,⟨fun b o e n hb hx=>?_,fun b o e n hb hx=>?_,I.base.free,fun b o e hx=>?_,I.base.tups,I.base.frzs,I.base.tbls⟩,⟨m,hn.sameBut hs (Ne.symm (cne x c hc)),fun j y v' e1 e2 e3=>?_⟩,fun y c' e=>?_,I.free,I.freeC,fun p hp=>?_,tracked ⟨oc,hoc,I.freeC x c hc⟩ hs,by simpa using I.len⟩ ⟨c,hs,.inr hc⟩
  ·exact (hs.2 b (Nat.ne_of_lt (Nat.lt_of_lt_of_le (Heap.lt_size e) (I.ok.cab x c hfn hc)))).trans (I.base.keep b o e n hb hx)
  ·obtain⟨sl,e1⟩:=I.base.slot b o e n hb hx
   exact⟨sl,(hs.2 b (Nat.ne_of_lt (Nat.lt_of_lt_of_le (Heap.lt_size e) (I.ok.cab x c hfn hc)))).trans e1⟩
  ·obtain⟨o',e1⟩:=I.base.there b o e hx
   exact⟨o',(hs.2 b (Nat.ne_of_lt (Nat.lt_of_lt_of_le (Heap.lt_size e) (I.ok.cab x c hfn hc)))).trans e1⟩
  ·by_cases hj:j=i
   ·subst hj
    rw[hi] at e1;cases e1
    rw[List.getElem?_set_self hiσ] at e2
    cases e2
    exact⟨u,r,.inr ⟨.inl hk,c,hc,hc'⟩⟩
   ·rw[List.getElem?_set_ne (Ne.symm hj)] at e2
    obtain⟨u',r',q⟩:=hl j y v' e1 e2 e3
    refine⟨u',r',?_⟩
    rcases q with q|⟨k,c',e,z'⟩
    ·exact .inl q
    ·refine .inr ⟨k,c',e,z'.sameBut hs ?_⟩
     rintro rfl
     exact hj (zkF hN e1 (I.ok.inj _ _ _ e hc▸hi))
  ·by_cases hcc:c'=c
   ·subst hcc;exact⟨_,hc'⟩
   ·obtain⟨w2,z2⟩:=I.cell y c' e
    exact⟨w2,z2.sameBut hs hcc⟩
  ·obtain⟨e,n,ne,nf,d⟩:=I.pin p hp
   refine⟨(hs.2 p.1 ?_).trans e,n,ne,nf,d⟩
   intro q
   rw[q,hoc] at e
   have q':oc=p.2:=Option.some.inj e
   exact d w' (by rw[<-q'];exact hocd)
theorem zkG{M:Model}{A:Around}{E:Value->Shared->Prop}{i:Nat}{x:Str}{v:V}{u:Value}{Q:Unit->Shared->Prop}(I:Inv X pins σ H s)(hN:X.N.Nodup)(hi:X.N[i]? =some x)(hx:Loc X.env.scope x)(r:RelV v u)
  (h: ∀s',Inv X pins (σ.set i (some v)) H s'->Q () s') (hf:X.fn x=true\/X.env.scope.names.lookup x=some .local:=by first|exact .inl rfl|exact .inr rfl|assumption):wpAny M A (storeName X.env x u) Q E s:=
 zis I hN hi hx r (fun s' I' _=>h s' I') hf
theorem Inv.call'{s':Shared}{ch:List Addr}(I:Inv X pins σ H s)(ho:s'.os=s.os)(u:Un (frs X.stack) ch H H' s.heap s'.heap)(hok:HOk X.prog X.w H' s'.heap)(hg:AllBare s'.gens)
  (hch: ∀b∈ch,(b∈X.ex\/X.s₀.heap.objs.size<=b)/\b≠X.env.locals/\(∀x c,X.env.cells.lookup x=some c->c≠b)/\∀p∈X.pn++pins,p.1≠b):Inv X pins σ H' s':=by
 obtain⟨h',g',d',t',o'⟩:=s'
 have e:o'=s.os:=ho
 subst e
 exact I.call (g':=g') (t':=t') (d':=d') u hok hg hch
end
noncomputable abbrev XK:=Value->Option Addr->Hp->Prop
noncomputable abbrev St:=List (Option V)
noncomputable abbrev VK:=V->Hp->Prop
noncomputable abbrev TE:=St->Hp->VK->Prop
noncomputable abbrev TT:=St->Hp->(Bool->Hp->Prop)->Prop
noncomputable abbrev TA:=St->Hp->(List V->Hp->Prop)->Prop
structure Ends where
 nx:St->Hp->Prop
 rt:VK
 bk:St->Hp->Prop:=fun _ _=>False
 ct:St->Hp->Prop:=fun _ _=>False
noncomputable abbrev TS:=Ends->St->Hp->Prop
noncomputable def EP(X:Cx)(pins:List (Addr×Obj))(σ:St)(Q:VK)(u:Value)(s':Shared):Prop:=∃v H',Inv X pins σ H' s'/\RelV v u/\Q v H'
noncomputable def TP(X:Cx)(pins:List (Addr×Obj))(σ:St)(Q:Bool->Hp->Prop)(b:Bool)(s':Shared):Prop:=∃H',Inv X pins σ H' s'/\Q b H'
noncomputable def AP(X:Cx)(pins:List (Addr×Obj))(σ:St)(Q:List V->Hp->Prop)(us:List Value)(s':Shared):Prop:=∃vs H',Inv X pins σ H' s'/\Vals vs us/\Q vs H'
noncomputable def SP(X:Cx)(pins:List (Addr×Obj))(D:Ends)(f:Flow)(s':Shared):Prop:=
 match f with
 | .next=>∃σ' H',Inv X pins σ' H' s'/\D.nx σ' H'
 | .brk=>∃σ' H',Inv X pins σ' H' s'/\D.bk σ' H'
 | .cont=>∃σ' H',Inv X pins σ' H' s'/\D.ct σ' H'
 | .ret u=>∃v σ' H',Inv X pins σ' H' s'/\RelV v u/\D.rt v H'
noncomputable def PE(X:Cx)(e:Expr)(t:TE):Prop:=
 ∀(pins:List (Addr×Obj)) (s:Shared) (σ:St) (H:Hp) (Q:VK),Inv X pins σ H s->t σ H Q->wpAny (model X.prog X.w) X.A (eval e X.env) (EP X pins σ Q) X.xe s
noncomputable def PT(X:Cx)(e:Expr)(t:TT):Prop:=
 ∀(pins:List (Addr×Obj)) (s:Shared) (σ:St) (H:Hp) (Q:Bool->Hp->Prop),Inv X pins σ H s->t σ H Q->wpAny (model X.prog X.w) X.A (isTrue e X.env (eval e X.env)) (TP X pins σ Q) X.xe s
noncomputable def PW(X:Cx)(e:Expr)(t:TT):Prop:=
 ∀(whole:Sem Value) (pins:List (Addr×Obj)) (s:Shared) (σ:St) (H:Hp) (Q:Bool->Hp->Prop),Inv X pins σ H s->t σ H Q->wpAny (model X.prog X.w) X.A (isTrue e X.env whole) (TP X pins σ Q) X.xe s
theorem PW.pt{X:Cx}{e:Expr}{t:TT}(h:PW X e t):PT X e t:=h _
noncomputable def PA(X:Cx)(es:List Expr)(t:TA):Prop:=
 ∀(pos:Pos) (pins:List (Addr×Obj)) (s:Shared) (σ:St) (H:Hp) (Q:List V->Hp->Prop),Inv X pins σ H s->t σ H Q->wpAny (model X.prog X.w) X.A (spliced (backTo pos (starEach es X.env))) (AP X pins σ Q) X.xe s
noncomputable def PS(X:Cx)(st:Stmt)(t:TS):Prop:=
 ∀(pins:List (Addr×Obj)) (s:Shared) (σ:St) (H:Hp) (D:Ends),Inv X pins σ H s->t D σ H->wpAny (model X.prog X.w) X.A (exec st X.env) (SP X pins D) X.xe s
noncomputable def PSs(X:Cx)(st:List Stmt)(t:TS):Prop:=
 ∀(pins:List (Addr×Obj)) (s:Shared) (σ:St) (H:Hp) (D:Ends),Inv X pins σ H s->t D σ H->wpAny (model X.prog X.w) X.A (execs st X.env) (SP X pins D) X.xe s
theorem thn{α:Type}{t:Sem α}{Q Q':α->Shared->Prop}{M:Model}{A:Around}{E:Value->Shared->Prop}{s:Shared}(h:wpAny M A t Q E s)(hQ: ∀a s,Q a s->Q' a s):wpAny M A t Q' E s:=wpAny_mono h hQ fun _ _ x=>x
end L2
namespace L2
open PySem PySem.Spec PyProof.Rows
section
variable {X:Cx}
noncomputable def zAt(i:Nat):TE:=fun σ H Q=>∃v,σ[i]? =some (some v)/\Q v H
noncomputable def tC(v:V):TE:=fun _ H Q=>Q v H
theorem zfz{i:Nat}{x:Str}{pos:Pos}(hN:X.N[i]? =some x)(hv:Vis X.env.scope x)(hd:(x==("__debug__":Str))=false:=by decide)(hcd:(x==("__classdict__":Str))=false:=by decide):PE X (.Name x pos) (zAt i):=by
 intro pins s σ H Q I h
 obtain⟨v,e,h⟩:=h
 obtain⟨m,hn,hl⟩:=I.loc
 obtain⟨u,r,l⟩:=hl i x v hN e hv
 have fin:EP X pins σ Q u s:=⟨v,H,I,r,h⟩
 rcases l with ⟨hk,hm⟩|⟨hk,c,hc,zgr⟩
 ·exact wpAny_Name (wpAny_loadName_local I.ok.kind hk hn hm fin) hd
 ·rcases hk with hk|hk
  ·exact wpAny_Name (wpAny_loadName_cell I.ok.kind hk hc zgr fin) hd
  ·exact wpAny_Name (wpAny_loadName_free I.ok.kind hk hc zgr fin hcd) hd
theorem zs9{i j pos}:PE X (.Constant (.int i) j pos) (tC (.int i)):=fun _ _ _ H _ I h=>wpAny_Constant_int ⟨.int i,H,I.tok _,⟨_,rfl⟩,h⟩
theorem zxN{b j pos}:PE X (.Constant (.bool b) j pos) (tC (.bl b)):=fun _ _ _ H _ I h=>Constant_bool ⟨.bl b,H,I,rfl,h⟩
theorem zta{x j pos}:PE X (.Constant (.str x) j pos) (tC (.str x)):=fun _ _ _ H _ I h=>Calls.Constant_str ⟨.str x,H,I.tok _,⟨_,rfl⟩,h⟩
noncomputable def Gl(X:Cx)(x:Str):Prop:=X.env.kindOf x=some .globalImplicit
theorem zmz{E:Value->Shared->Prop}{pins:List (Addr×Obj)}{s:Shared}{σ:St}{H:Hp}{x:Str}{u:Value}{pos:Pos}{Q:Value->Shared->Prop}(I:Inv X pins σ H s)(hg:Gl X x)(hm:X.mg x=some u)(h:Q u s)
  (hd:(x==("__debug__":Str))=false:=by decide):wpAny (model X.prog X.w) X.A (eval (.Name x pos) X.env) Q E s:=
 Calls.Name_function_global I.ok.kind hg (Calls.loadGlobal_global (by rw[I.ok.glob];exact I.mod.glob.keeps I.bk) hm h) hd
theorem zit{E:Value->Shared->Prop}{pins:List (Addr×Obj)}{s:Shared}{σ:St}{H:Hp}{x:Str}{u:Value}{pos:Pos}{Q:Value->Shared->Prop}(I:Inv X pins σ H s)(hg:Gl X x)(hm:X.mg x=none)(hv:bootBuiltins x=some u)(h:Q u s)
  (hn:x≠"__name__":=by decide) (hd:(x==("__debug__":Str))=false:=by decide):wpAny (model X.prog X.w) X.A (eval (.Name x pos) X.env) Q E s:=by
 obtain⟨mb,h1,h2⟩:=I.mod.blt
 exact Calls.Name_function_global I.ok.kind hg (Calls.loadGlobal_builtin (by rw[I.ok.glob];exact I.mod.glob.keeps I.bk) hm (by rw[I.ok.blt];exact h1.keeps I.bk) ((h2 x hn).trans hv) h) hd
theorem zrd{x:Str}{v:V}{u:Value}{pos:Pos}(hg:Gl X x)(hm:X.mg x=some u)(r:RelV v u)(hd:(x==("__debug__":Str))=false:=by decide):PE X (.Name x pos) (tC v):=
 fun _ _ _ H _ I h=>zmz I hg hm ⟨v,H,I,r,h⟩ hd
theorem zre{x:Str}{v:V}{u:Value}{pos:Pos}(hg:Gl X x)(hm:X.mg x=none)(hv:bootBuiltins x=some u)(r:RelV v u)(hn:x≠"__name__":=by decide)(hd:(x==("__debug__":Str))=false:=by decide):PE X (.Name x pos) (tC v):=
 fun _ _ _ H _ I h=>zit I hg hm hv ⟨v,H,I,r,h⟩ hn hd
variable {a b:Expr} {ta tb:TE} {pos:Pos}
variable {tA tB':TT} {zch:List Expr}
noncomputable def zAu(t u:TT):TT:=fun σ H Q=>t σ H fun c H1=>if c=true then u σ H1 Q else Q false H1
noncomputable def tOr(t u:TT):TT:=fun σ H Q=>t σ H fun c H1=>if c=true then Q true H1 else u σ H1 Q
noncomputable def zAv(t:TT):TT:=fun σ H Q=>t σ H fun c H1=>Q (!c) H1
theorem zrf(ha:PT X a tA):PW X (.BoolOp .And [a] pos) tA:=by
 intro wh pins s σ H Q I h
 refine isTrue_and (thn (ha pins s σ H Q I h) fun c s1 e=>?_)
 cases c with
 |true=>exact isTrue_and_nil e
 |false=>exact e
theorem zqn(ha:PT X a tA):PW X (.BoolOp .Or [a] pos) tA:=by
 intro wh pins s σ H Q I h
 refine isTrue_or (thn (ha pins s σ H Q I h) fun c s1 e=>?_)
 cases c with
 |false=>exact isTrue_or_nil e
 |true=>exact e
theorem ztb(ha:PT X a tA)(hb:PW X (.BoolOp .And (b::zch) pos) tB'):PW X (.BoolOp .And (a::b::zch) pos) (zAu tA tB'):=by
 intro wh pins s σ H Q I h
 refine isTrue_and (thn (ha pins s σ H _ I h) fun c s1 ⟨H1,I1,q1⟩=>?_)
 cases c with
 |true=>exact hb wh pins s1 σ H1 Q I1 q1
 |false=>exact⟨H1,I1,q1⟩
theorem ztc(ha:PT X a tA)(hb:PW X (.BoolOp .Or (b::zch) pos) tB'):PW X (.BoolOp .Or (a::b::zch) pos) (tOr tA tB'):=by
 intro wh pins s σ H Q I h
 refine isTrue_or (thn (ha pins s σ H _ I h) fun c s1 ⟨H1,I1,q1⟩=>?_)
 cases c with
 |true=>exact⟨H1,I1,q1⟩
 |false=>exact hb wh pins s1 σ H1 Q I1 q1
theorem ztd(ha:PT X a tA):PT X (.UnaryOp .Not a pos) (zAv tA):=by
 intro pins s σ H Q I h
 exact isTrue_not (ha pins s σ H (fun c H1=>Q (!c) H1) I h)
noncomputable def zxO(ta tb:TE):TE:=fun σ H Q=>ta σ H fun x H1=>∃c,x= .bl c/\if c=true then tb σ H1 Q else Q (.bl false) H1
theorem zte{op}{t:TE}(h:PE X a t):PE X (.BoolOp op [a] pos) t:=fun pins s σ H Q I hw=>BoolOp_one (h pins s σ H Q I hw)
theorem ztf(ha:PE X a ta)(hb:PE X (.BoolOp .And (b::zch) pos) tb):PE X (.BoolOp .And (a::b::zch) pos) (zxO ta tb):=by
 intro pins s σ H Q I h
 refine BoolOp_and (thn (ha pins s σ H _ I h) fun v s1 ⟨x,H1,I1,r1,q1⟩=>?_)
 obtain⟨c,rfl,q1⟩:=q1
 cases r1
 refine wpAny_truthy_bool ?_
 cases c with
 |true=>exact hb pins s1 σ H1 Q I1 q1
 |false=>exact⟨.bl false,H1,I1,rfl,q1⟩
end
end L2
namespace L2
open PySem PySem.Spec PyProof.Rows
noncomputable def SqL(K:PySem.W.Frag)(H:Hp)(a:Addr)(xs:List V):Prop:=
 Rd H a (.lst xs)\/
  ∃(o:Obj) (its:Array Value) (n:Nat),K.lookup a=some o/\o.cls= .type "list"/\o.dict=none/\o.data= .seq its n/\its.size<=sizeLine/\Vals xs its.toList
noncomputable def SqT(K:PySem.W.Frag)(H:Hp)(a:Addr)(xs:List V):Prop:=
 Rd H a (.tup xs)\/
  ∃(o:Obj) (its:Array Value) (n:Nat),K.lookup a=some o/\o.cls= .type "tuple"/\o.data= .seq its n/\its.size<=sizeLine/\Vals xs its.toList
noncomputable def zAw:Value->Option V
 | .none=>some .non
 | .bool b=>some (.bl b)
 | .int i _=>some (.int i)
 | .str x _=>some (.str x)
 | .bytes b _=>some (.byt b)
 | .float b _=>some (.flt b)
 | .ref a=>some (.ref a)
 | .type n=>some (.ty n)
 |_=>none
theorem RelV.abs{x:V}{u:Value}(r:RelV x u):zAw u=some x:=by
 cases x with
 |non=>cases r;rfl
 |bl _=>cases r;rfl
 |int _=>obtain⟨t,rfl⟩:=r;rfl
 |str _=>obtain⟨t,rfl⟩:=r;rfl
 |byt _=>obtain⟨t,rfl⟩:=r;rfl
 |flt _=>obtain⟨t,rfl⟩:=r;rfl
 |ref _=>cases r;rfl
 |ty _=>cases r;rfl
theorem RelV.inj{x y:V}{u:Value}(r:RelV x u)(q:RelV y u):x=y:=Option.some.inj (r.abs.symm.trans q.abs)
theorem Vals.inj: ∀{xs ys:List V} {us:List Value},Vals xs us->Vals ys us->xs=ys
 |_,_,_,.nil,.nil=>rfl
 |_,_,_,.cons r t,.cons r' t'=>by rw[r.inj r',Vals.inj t t']
section
variable {X:Cx} {pins:List (Addr×Obj)} {σ:St} {H:Hp} {s:Shared} {a:Addr} {xs ys:List V}
theorem SqL.of{K:PySem.W.Frag}(h:H a=some (.lst xs)):SqL K H a xs:=.inl (.inl h)
theorem SqT.of{K:PySem.W.Frag}(h:H a=some (.tup xs)):SqT K H a xs:=.inl (.inl h)
theorem Inv.list(I:Inv X pins σ H s)(h:SqL X.K H a xs): ∃its:List Value,Vals xs its/\PlainL s.heap a its.toArray/\xs.length<=sizeLine:=by
 rcases h with h|⟨o,its,n,hk,hc,hd,hs,hz,r⟩
 ·obtain⟨z,its,n,r,e⟩:=h.ok I.hok
  exact⟨its,r,⟨_,n,e,rfl,rfl,rfl⟩,z⟩
 ·refine⟨its.toList,r,⟨o,n,I.kIn a o hk,hc,hd,by simpa using hs⟩,?_⟩
  have e:=r.length
  simp only[Array.length_toList] at e
  omega
theorem Inv.tuple(I:Inv X pins σ H s)(h:SqT X.K H a xs): ∃its:List Value,Vals xs its/\IsTup s.heap a its.toArray/\xs.length<=sizeLine:=by
 rcases h with h|⟨o,its,n,hk,hc,hs,hz,r⟩
 ·obtain⟨z,its,r,p⟩:=h.ok I.hok
  exact⟨its,r,p,z⟩
 ·refine⟨its.toList,r,⟨o,I.kIn a o hk,hc,n,by simpa using hs⟩,?_⟩
  have e:=r.length
  simp only[Array.length_toList] at e
  omega
theorem Inv.list_inj(I:Inv X pins σ H s)(h:SqL X.K H a xs)(h':SqL X.K H a ys):xs=ys:=by
 obtain⟨its,r,⟨o,n,e,_,_,d⟩,_⟩:=I.list h
 obtain⟨its',r',⟨o',n',e',_,_,d'⟩,_⟩:=I.list h'
 rw[e] at e';cases e'
 rw[d] at d'
 injection d' with d1 _
 have:its=its':=by simpa using congrArg Array.toList d1
 subst this
 exact r.inj r'
theorem Inv.tuple_inj(I:Inv X pins σ H s)(h:SqT X.K H a xs)(h':SqT X.K H a ys):xs=ys:=by
 obtain⟨its,r,⟨o,e,_,n,d⟩,_⟩:=I.tuple h
 obtain⟨its',r',⟨o',e',_,n',d'⟩,_⟩:=I.tuple h'
 rw[e] at e';cases e'
 rw[d] at d'
 injection d' with d1 _
 have:its=its':=by simpa using congrArg Array.toList d1
 subst this
 exact r.inj r'
end
noncomputable abbrev Cx.wish(X:Cx)(E:Value->Shared->Prop):Cx:={ X with xe:=E }
noncomputable abbrev Cx.nox(X:Cx):Cx:=X.wish fun _ _=>False
theorem Cx.Ok.wish{X:Cx}(ok:X.Ok)(E:Value->Shared->Prop):(X.wish E).Ok:=
 ⟨ok.mod,ok.kind,ok.glob,ok.blt,ok.above,ok.inj,ok.has,ok.cab,ok.hd,ok.frames,ok.stk,ok.exf,ok.bs,ok.bsz,ok.noex,ok.exfs,ok.funs,ok.frf⟩
theorem Cx.Ok.unwish{X:Cx}{E:Value->Shared->Prop}(ok:(X.wish E).Ok):X.Ok:=
 ⟨ok.mod,ok.kind,ok.glob,ok.blt,ok.above,ok.inj,ok.has,ok.cab,ok.hd,ok.frames,ok.stk,ok.exf,ok.bs,ok.bsz,ok.noex,ok.exfs,ok.funs,ok.frf⟩
section
variable {X:Cx} {pins:List (Addr×Obj)} {σ:St} {H:Hp} {s:Shared} {E:Value->Shared->Prop}
theorem Inv.wish(I:Inv X pins σ H s)(E:Value->Shared->Prop):Inv (X.wish E) pins σ H s:=⟨I.ok.wish E,I.os,I.bare,I.base,I.loc,I.cell,I.free,I.freeC,I.pin,I.hok,I.len⟩
theorem Inv.unwish(I:Inv (X.wish E) pins σ H s):Inv X pins σ H s:=⟨I.ok.unwish,I.os,I.bare,I.base,I.loc,I.cell,I.free,I.freeC,I.pin,I.hok,I.len⟩
theorem SP.unwish{D:Ends}{f:Flow}{s':Shared}(h:SP (X.wish E) pins D f s'):SP X pins D f s':=by
 cases f with
 |next=>obtain⟨σ',H',I,q⟩:=h;exact⟨σ',H',I.unwish,q⟩
 |brk=>obtain⟨σ',H',I,q⟩:=h;exact⟨σ',H',I.unwish,q⟩
 |cont=>obtain⟨σ',H',I,q⟩:=h;exact⟨σ',H',I.unwish,q⟩
 |ret u=>obtain⟨v,σ',H',I,r,q⟩:=h;exact⟨v,σ',H',I.unwish,r,q⟩
theorem PE.nox{e:Expr}{t:TE}(h:PE X.nox e t):PE X e t:=fun pins s σ H Q I hw=>
 wpAny_mono (h pins s σ H Q (I.wish _) hw) (fun _ _ ⟨v,H',I',r,q⟩=>⟨v,H',I'.unwish,r,q⟩) fun _ _ z=>False.elim z
theorem PT.nox{e:Expr}{t:TT}(h:PT X.nox e t):PT X e t:=fun pins s σ H Q I hw=>
 wpAny_mono (h pins s σ H Q (I.wish _) hw) (fun _ _ ⟨H',I',q⟩=>⟨H',I'.unwish,q⟩) fun _ _ z=>False.elim z
theorem PSs.nox{st:List Stmt}{t:TS}(h:PSs X.nox st t):PSs X st t:=fun pins s σ H D I hw=>
 wpAny_mono (h pins s σ H D (I.wish _) hw) (fun _ _ q=>q.unwish) fun _ _ z=>False.elim z
end
section
variable {X:Cx} {st:Stmt} {zch:List Stmt} {t u:TS} {e:Expr} {te:TE} {pos:Pos}
noncomputable def zxP:TS:=fun D σ H=>D.nx σ H
noncomputable def zAx(t u:TS):TS:=fun D σ H=>t { D with nx:=u D } σ H
theorem zrg:PSs X [] zxP:=fun _ _ σ H _ I h=>wpAny_execs_nil ⟨σ,H,I,h⟩
theorem zo2(h1:PS X st t)(h2:PSs X zch u):PSs X (st::zch) (zAx t u):=by
 intro pins s σ H D I h
 refine wpAny_execs_cons (thn (h1 pins s σ H { D with nx:=u D } I h) fun f s1 q=>?_)
 cases f with
 |next=>
  obtain⟨σ',H',I',q⟩:=q
  exact h2 pins s1 σ' H' D I' q
 |ret v=>exact q
 |brk=>exact q
 |cont=>exact q
theorem Inv.quiet{pins:List (Addr×Obj)}{σ:St}{H:Hp}{s:Shared}(I:Inv X pins σ H s):interactive X.env=false:=by simp[interactive,I.ok.kind]
noncomputable def zxQ(te:TE):TS:=fun D σ H=>te σ H fun _ H1=>D.nx σ H1
theorem zj0(he:PE X e te)(hs:swapsWith e none pos.line X.env=pure false:=by rfl):PS X (.Expr e pos) (zxQ te):=by
 intro pins s σ H D I h
 exact wpAny_Expr_any (thn (he pins s σ H _ I h) fun v s1 ⟨x,H1,I1,r1,q1⟩=>⟨σ,H1,I1,q1⟩) I.quiet hs
noncomputable def zAy(te:TE):TS:=fun D σ H=>te σ H D.rt
theorem zqo(he:PE X e te):PS X (.Return (some e) pos) (zAy te):=by
 intro pins s σ H D I h
 exact wpAny_Return_some (thn (he pins s σ H _ I h) fun v s1 ⟨x,H1,I1,r1,q1⟩=>⟨x,σ,H1,I1,r1,q1⟩)
noncomputable def zAz(c:TT)(t u:TS):TS:=fun D σ H=>c σ H fun b H1=>if b=true then t D σ H1 else u D σ H1
theorem ztg{c:Expr}{a b:List Stmt}{tc:TT}(hc:PT X c tc)(ha:PSs X a t)(hb:PSs X b u):PS X (.If c a b pos) (zAz tc t u):=by
 intro pins s σ H D I h
 refine wpAny_If (thn (hc pins s σ H _ I h) fun d s1 ⟨H1,I1,q1⟩=>?_)
 cases d with
 |true=>exact ha pins s1 σ H1 D I1 q1
 |false=>exact hb pins s1 σ H1 D I1 q1
noncomputable def zth:TS:=fun _ _ _=>False
theorem zo3:PS X st zth:=fun _ _ _ _ _ _ h=>h.elim
end
noncomputable abbrev TG:=V->St->Hp->(St->Hp->Prop)->Prop
noncomputable def PG(X:Cx)(target:Expr)(t:TG):Prop:=
 ∀(pins:List (Addr×Obj)) (s:Shared) (σ:St) (H:Hp) (v:V) (u:Value) (Q:St->Hp->Prop),Inv X pins σ H s->RelV v u->t v σ H Q->
  wpAny (model X.prog X.w) X.A (assign target X.env u) (fun _ s'=>∃σ' H',Inv X pins σ' H' s'/\Q σ' H') X.xe s
section
variable {X:Cx} {pos:Pos}
noncomputable def zrh(i:Nat):TG:=fun v σ H Q=>Q (σ.set i (some v)) H
theorem zj1{i:Nat}{x:Str}(hN:X.N.Nodup)(hi:X.N[i]? =some x)(hx:Loc X.env.scope x)(hf:X.fn x=true\/X.env.scope.names.lookup x=some .local:=by first|exact .inl rfl|exact .inr rfl|assumption):PG X (.Name x pos) (zrh i):=by
 intro pins s σ H v u Q I r h
 exact wpAny_assign_Name (zkG I hN hi hx r (fun s' I'=>⟨_,H,I',h⟩) hf)
noncomputable def zAA(te:TE)(g:TG):TS:=fun D σ H=>te σ H fun x H1=>g x σ H1 D.nx
theorem zqp{i:Nat}{x:Str}{e:Expr}{te:TE}{pos':Pos}(hN:X.N.Nodup)(hi:X.N[i]? =some x)(hx:Loc X.env.scope x)(he:PE X e te)(hs:swapsWith e (some (.Name x pos')) pos.line X.env=pure false:=by rfl)(hf:X.fn x=true\/X.env.scope.names.lookup x=some .local:=by first|exact .inl rfl|exact .inr rfl|assumption):
  PS X (.Assign [.Name x pos'] e pos) (zAA te (zrh i)):=by
 intro pins s σ H D I h
 refine wpAny_Assign_Name (thn (he pins s σ H _ I h) fun v s1 ⟨y,H1,I1,r1,q1⟩=>?_) hs
 exact zkG I1 hN hi hx r1 (fun s2 I2=>⟨_,H1,I2,q1⟩) hf
end
section
variable {X:Cx} {pos:Pos}
noncomputable def zti(c:TT)(tb:TS):TS:=fun D σ H=>∃W:Nat->St->Hp->Prop,(∃m,W m σ H)/\∀m σ H,W m σ H->
 c σ H fun b H1=>if b=true then ∃N:St->Hp->Prop,(∀σ' H',N σ' H'->∃m',m'<m/\W m' σ' H')/\tb { D with nx:=N,ct:=N,bk:=D.nx } σ H1 else D.nx σ H1
theorem zo4{c:Expr}{body:List Stmt}{tc:TT}{tb:TS}(hp:PassesOwn (model X.prog X.w) X.A X.env X.xe)(hc:PT X c tc)(hb:PSs X body tb):PS X (.While c body [] pos) (zti tc tb):=by
 intro pins s σ H D I h
 obtain⟨W,⟨m0,w0⟩,turn⟩:=h
 refine wpAny_While (codeAny_whileLoop (fun n s'=>∃σ' H',Inv X pins σ' H' s'/\W n σ' H') ?_ m0 ⟨σ,H,I,w0⟩)
 rintro n s1 ⟨σ1,H1,I1,w1⟩
 refine wpAny_passesOwn hp (thn (hc pins s1 σ1 H1 _ I1 (turn n σ1 H1 w1)) fun b s2 ⟨H2,I2,q2⟩=>?_)
 cases b with
 |true=>
  obtain⟨N,hN,q2⟩:=q2
  rw[if_pos rfl]
  refine wpAny_passesOwn hp (thn (hb pins s2 σ1 H2 _ I2 q2) fun f s3 q3=>?_)
  cases f with
  |next=>
   obtain⟨σ3,H3,I3,n3⟩:=q3
   obtain⟨m',hm,w3⟩:=hN σ3 H3 n3
   exact⟨m',hm,σ3,H3,I3,w3⟩
  |cont=>
   obtain⟨σ3,H3,I3,n3⟩:=q3
   obtain⟨m',hm,w3⟩:=hN σ3 H3 n3
   exact⟨m',hm,σ3,H3,I3,w3⟩
  |brk=>exact q3
  |ret v=>exact q3
 |false=>
  rw[if_neg Bool.false_ne_true]
  exact wpAny_execs_nil ⟨σ1,H2,I2,q2⟩
end
structure It where
 go:Nat->Hp->Prop
 yld:Nat->Hp->V->Hp->Prop
 stop:Nat->Hp->Prop
noncomputable def zmt(X:Cx)(pins:List (Addr×Obj))(H:Hp)(b:Addr):Prop:=
 H b=none/\b≠X.env.locals/\b∉X.fs/\(b∈X.ex\/X.s₀.heap.objs.size<=b)/\(∀x c,X.env.cells.lookup x=some c->c≠b)/\∀p∈X.pn++pins,p.1≠b
theorem Inv.fpOk{X:Cx}{pins:List (Addr×Obj)}{σ:St}{H H':Hp}{s:Shared}{b:Addr}(I:Inv X pins σ H s)(hb:s.heap.objs.size<=b)(hn:H' b=none):zmt X pins H' b:=by
 refine⟨hn,Nat.ne_of_gt (Nat.lt_of_lt_of_le I.lt hb),I.nofs hb,.inr (Nat.le_trans I.sz hb),fun x c e z=>?_,fun p hp z=>?_⟩
 ·obtain⟨v,q⟩:=I.cell x c e
  exact absurd (Nat.lt_of_lt_of_le q.lt (by rw[z];exact hb)) (Nat.lt_irrefl _)
 ·exact absurd (Nat.lt_of_lt_of_le (Heap.lt_size (I.pin p hp).1) (by rw[z];exact hb)) (Nat.lt_irrefl _)
structure Turn (P:Program)(w:World)(K:PySem.W.Frag)(tg:Expr)(J:It)(fp:List Addr)(it:Addr)(tn:Nat->Heap->Prop):Prop where
 mem:it∈fp
 obj: ∀i h,tn i h->∀b∈fp,∃o,h.get? b=some o/\∀v,o.data≠ .cell v
 keep: ∀i h h',tn i h->(∀b∈fp,∀o,h.get? b=some o->h'.get? b=some o)->tn i h'
 item: ∀(X:Cx),X.prog=P->X.w=w->X.K=K->X.calm=true->∀(i:Nat) (pins:List (Addr×Obj)) (s:Shared) (σ:St) (H:Hp) (E:Value->Shared->Prop),Inv X pins σ H s->(∀b∈fp,zmt X pins H b)->tn i s.heap->J.go i H->
  wpAny (model P w) X.A (pyNext (.ref it)) (fun r s1=>∃u,r=some u/\
   wpAny (model P w) X.A (letOwnedTupleGo tg (.ref it) u) (fun _ s2=>∃x H',Inv X pins σ H' s2/\RelV x u/\J.yld i H x H'/\tn (i+1) s2.heap/\∀b∈fp,H' b=none) E s1) E s
 done: ∀(X:Cx),X.prog=P->X.w=w->X.K=K->X.calm=true->∀(i:Nat) (pins:List (Addr×Obj)) (s:Shared) (σ:St) (H:Hp) (E:Value->Shared->Prop),Inv X pins σ H s->(∀b∈fp,zmt X pins H b)->tn i s.heap->J.stop i H->
  wpAny (model P w) X.A (pyNext (.ref it)) (fun r s1=>r=none/\Inv X pins σ H s1) E s
 self: ∀(A:Around) (i:Nat) (s:Shared) (Q:Value->Shared->Prop) (E:Value->Shared->Prop),tn i s.heap->Q (.ref it) s->wpAny (model P w) A (pyIter (.ref it)) Q E s
noncomputable abbrev TI:=St->Hp->(It->Hp->Prop)->Prop
noncomputable def PIE(X:Cx)(pins:List (Addr×Obj))(σ:St)(tg:Expr)(R:It->Hp->Prop)(itv:Value)(s2:Shared):Prop:=
 ∃(it:Addr) (fp:List Addr) (tn:Nat->Heap->Prop) (J:It) (H':Hp),itv= .ref it/\Inv X pins σ H' s2/\Turn X.prog X.w X.K tg J fp it tn/\tn 0 s2.heap/\(∀b∈fp,zmt X pins H' b)/\R J H'
noncomputable def PI(X:Cx)(tg iter:Expr)(wi:TI):Prop:=
 ∀(pins:List (Addr×Obj)) (s:Shared) (σ:St) (H:Hp) (R:It->Hp->Prop),Inv X pins σ H s->wi σ H R->
  wpAny (model X.prog X.w) X.A (eval iter X.env) (fun v s1=>wpAny (model X.prog X.w) X.A (pyIter v) (PIE X pins σ tg R) X.xe s1) X.xe s
theorem zri {M : Model} {A : Around} {E : Value → Shared → Prop} {s : Shared} {tg : Expr} {it : Addr} {u : Value} {o : Obj} {n : String} {vs : Array Value} {Q : Unit → Shared → Prop} (ho : s.heap.get? it = some o) (hc : o.cls = .type n) (hd : o.data = .fields vs)
    (hn : ["enumerate", "zip", "dict_itemiterator", "dict_reverseitemiterator", "odict_iterator", "itertools.zip_longest", "itertools.pairwise"].contains n = false) (hQ : Q () s) : wpAny M A (letOwnedTupleGo tg (.ref it) u) Q E s := by
  unfold letOwnedTupleGo
  cases tg <;> first
    | exact wpAny_pure hQ
    | (cases u <;> first
        | exact wpAny_pure hQ
        | (refine wpAny_bind (wpAny_load ho ?_)
           rw [hc, hd]
           show wpAny M A (if (["enumerate", "zip", "dict_itemiterator", "dict_reverseitemiterator", "odict_iterator", "itertools.zip_longest", "itertools.pairwise"].contains n && vs[0]? == some (rawInt _)) = true then _ else _) Q E s
           rw [if_neg (by intro h; rw [hn, Bool.false_and] at h; cases h)]
           exact wpAny_pure hQ))
noncomputable def Itl(K:PySem.W.Frag)(a:Addr):It:=
 ⟨fun i H=>∃xs x,SqL K H a xs/\xs[i]? =some x,fun i H x H'=>H'=H/\∀xs,SqL K H a xs->xs[i]? =some x,fun i H=>∃xs,SqL K H a xs/\xs.length<=i⟩
noncomputable def Itt(K:PySem.W.Frag)(a:Addr):It:=
 ⟨fun i H=>∃xs x,SqT K H a xs/\xs[i]? =some x,fun i H x H'=>H'=H/\∀xs,SqT K H a xs->xs[i]? =some x,fun i H=>∃xs,SqT K H a xs/\xs.length<=i⟩
noncomputable def Itr(lo:Int)(n:Nat):It:=⟨fun i _=>i<n,fun i H x H'=>H'=H/\x= .int (lo+i),fun i _=>n<=i⟩
theorem zmA{P:Program}{w:World}{K:PySem.W.Frag}{tg:Expr}(a it:Addr):Turn P w K tg (Itl K a) [it] it (fun i h=>h.IsListIter it a i) where
 mem:=by simp
 obj:=fun i h st b hb=>by
  have e:b=it:=by simpa using hb
  subst e
  obtain⟨o,e,c,d⟩:=st
  exact⟨o,e,fun v z=>by rw[d] at z;cases z⟩
 keep:=fun i h h' st k=>st.at fun o e=>k it (by simp) o e
 item:=by
  intro X hP hw hK hc i pins s σ H E I hf st hg
  subst hP hw hK
  obtain⟨xs,x,hq,hx⟩:=hg
  obtain⟨its,rv,p,hz⟩:=I.list hq
  obtain⟨u,hu,ru⟩:=rv.get hx
  obtain⟨f0,f1,f2,f3,f4,f5⟩:=hf it (by simp)
  refine wpAny_pyNext_list_item st p.isList (x:=u) (by simpa using hu) fun h' st' sb=>?_
  have I1:Inv X pins σ H { s with heap:=h' }:=I.turned (t':=s.toks) (fun b o hb e=>(sb.2 b hb).trans e) f0 f1 f3 f4 f5
  obtain⟨o,e,c,d⟩:=id st'
  exact⟨u,rfl,zri (s:={ s with heap:=h' }) e c d (by decide) ⟨x,H,I1,ru,⟨rfl,fun ys hy=>by rw[I.list_inj hy hq];exact hx⟩,st',fun b hb=>(hf b hb).1⟩⟩
 done:=by
  intro X hP hw hK hc i pins s σ H E I hf st hg
  subst hP hw hK
  obtain⟨xs,hq,hx⟩:=hg
  obtain⟨its,rv,p,hz⟩:=I.list hq
  obtain⟨f0,f1,f2,f3,f4,f5⟩:=hf it (by simp)
  have hl:=rv.length
  exact wpAny_pyNext_list_end (I.ok.hd hc) st p.isList (by simp;omega) fun h' eb=>⟨rfl,I.turned (t':=s.toks) (fun b o hb e=>eb b o hb e) f0 f1 f3 f4 f5⟩
 self:=fun _ _ _ _ _ st h=>wpAny_pyIter_listiter st h
theorem zlM{P:Program}{w:World}{K:PySem.W.Frag}{tg:Expr}(a it:Addr):Turn P w K tg (Itt K a) [it] it (fun i h=>h.IsTupleIter it a i) where
 mem:=by simp
 obj:=fun i h st b hb=>by
  have e:b=it:=by simpa using hb
  subst e
  obtain⟨o,e,c,d⟩:=st
  exact⟨o,e,fun v z=>by rw[d] at z;cases z⟩
 keep:=fun i h h' st k=>st.at fun o e=>k it (by simp) o e
 item:=by
  intro X hP hw hK hc i pins s σ H E I hf st hg
  subst hP hw hK
  obtain⟨xs,x,hq,hx⟩:=hg
  obtain⟨its,rv,p,hz⟩:=I.tuple hq
  obtain⟨u,hu,ru⟩:=rv.get hx
  obtain⟨f0,f1,f2,f3,f4,f5⟩:=hf it (by simp)
  refine wpAny_pyNext_tuple_item st (show s.heap.IsTuple a its.toArray from p) (x:=u) (by simpa using hu) fun h' st' sb=>?_
  have I1:Inv X pins σ H { s with heap:=h' }:=I.turned (t':=s.toks) (fun b o hb e=>(sb.2 b hb).trans e) f0 f1 f3 f4 f5
  obtain⟨o,e,c,d⟩:=id st'
  exact⟨u,rfl,zri (s:={ s with heap:=h' }) e c d (by decide) ⟨x,H,I1,ru,⟨rfl,fun ys hy=>by rw[I.tuple_inj hy hq];exact hx⟩,st',fun b hb=>(hf b hb).1⟩⟩
 done:=by
  intro X hP hw hK hc i pins s σ H E I hf st hg
  subst hP hw hK
  obtain⟨xs,hq,hx⟩:=hg
  obtain⟨its,rv,p,hz⟩:=I.tuple hq
  obtain⟨f0,f1,f2,f3,f4,f5⟩:=hf it (by simp)
  have hl:=rv.length
  exact wpAny_pyNext_tuple_end (I.ok.hd hc) st (show s.heap.IsTuple a its.toArray from p) (by simp;omega) fun h' eb=>⟨rfl,I.turned (t':=s.toks) (fun b o hb e=>eb b o hb e) f0 f1 f3 f4 f5⟩
 self:=fun _ _ _ _ _ st h=>wpAny_pyIter_tupleiter st h
theorem zlN{P:Program}{w:World}{K:PySem.W.Frag}{tg:Expr}(it:Addr)(lo:Int)(n:Nat):Turn P w K tg (Itr lo n) [it] it (fun i h=>IsRangeIter h it (lo+(i:Nat)*1) ((n:Int)-(i:Nat)) 1) where
 mem:=by simp
 obj:=fun i h st b hb=>by
  have e:b=it:=by simpa using hb
  subst e
  exact⟨_,st,fun v z=>by
   have z':Data.fields _=Data.cell v:=z
   cases z'⟩
 keep:=fun i h h' st k=>k it (by simp) _ st
 item:=by
  intro X hP hw hK hc i pins s σ H E I hf st hg
  subst hP hw hK
  obtain⟨f0,f1,f2,f3,f4,f5⟩:=hf it (by simp)
  have W:=Walks.range (prog:=X.prog) (w:=X.w) (I.ok.hd hc) it lo 1 n
  refine W.item i s _ _ hg st fun v h' tk hv st' kk=>?_
  obtain⟨t,rfl⟩:=hv
  have I1:Inv X pins σ H { s with heap:=h',toks:=tk }:=I.turned (fun b o hb e=>kk b o (by simpa using hb) e) f0 f1 f3 f4 f5
  refine⟨_,rfl,zri (s:={ s with heap:=h',toks:=tk }) (n:="range_iterator") st' rfl rfl (by decide) ⟨.int (lo+i),H,I1,⟨t,?_⟩,⟨rfl,rfl⟩,st',fun b hb=>(hf b hb).1⟩⟩
  rw[Int.mul_one]
 done:=by
  intro X hP hw hK hc i pins s σ H E I hf st hg
  subst hP hw hK
  obtain⟨f0,f1,f2,f3,f4,f5⟩:=hf it (by simp)
  exact wpAny_pyNext_range_end (I.ok.hd hc) st (by have:n<=i:=hg;omega) fun h' eb=>⟨rfl,I.turned (t':=s.toks) (fun b o hb e=>eb b o hb e) f0 f1 f3 f4 f5⟩
 self:=fun _ _ _ _ _ st h=>wpAny_pyIter_rangeiter st h
end L2
namespace L2
open PySem PySem.Spec PyProof.Rows
section
variable {X:Cx} {tg:Expr}
theorem zkH{pins:List (Addr×Obj)}{σ:St}{H:Hp}{s:Shared}{R:It->Hp->Prop}{E:Value->Shared->Prop}{lo hi:Int}{t u v:Tok}{tk:Nat}(I:Inv X pins σ H s)(h1: -(2 ^ 62)<=lo)(h2:lo<2 ^ 62)(h3: -(2 ^ 62)<=hi)(h4:hi<2 ^ 62)
  (q:R (Itr lo (hi-lo).toNat) H):wpAny (model X.prog X.w) X.A (pyIter (.ref s.heap.objs.size)) (PIE X pins σ tg R) E { s with heap:=s.heap.push { cls:=.type "range",data:=.fields #[.int lo t,.int hi u,.int 1 v] },toks:=tk }:=by
 refine wpAny_pyIter_range (IsRange.new ..) (small_one h1 h2 h3 h4) ?_
 have I1:Inv X pins σ H { s with heap:=s.heap.push { cls:=.type "range",data:=.fields #[.int lo t,.int hi u,.int 1 v] },toks:=tk }:=I.kept fun b o e=>Heap.get?_push_of_some _ e
 refine⟨(s.heap.push { cls:=.type "range",data:=.fields #[.int lo t,.int hi u,.int 1 v] }).objs.size,[(s.heap.push { cls:=.type "range",data:=.fields #[.int lo t,.int hi u,.int 1 v] }).objs.size],_,_,H,rfl,
  I1.kept (t':=tk) fun b o e=>Heap.get?_push_of_some _ e,zlN _ lo (hi-lo).toNat,?_,fun b hb=>?_,q⟩
 ·have e1:lo+((0:Nat):Int)*1=lo:=by simp
  have e2:(((hi-lo).toNat:Nat):Int)-((0:Nat):Int)=Builtin.Range.rangeSize lo hi 1:=by rw[rangeSize_one];split<;>omega
  show IsRangeIter _ _ (lo+((0:Nat):Int)*1) ((((hi-lo).toNat:Nat):Int)-((0:Nat):Int)) 1
  rw[e1,e2]
  exact Heap.get?_push_size _ rfl
 ·have e:b=(s.heap.push { cls:=.type "range",data:=.fields #[.int lo t,.int hi u,.int 1 v] }).objs.size:=by simpa using hb
  subst e
  exact I1.fpOk (Nat.le_refl _) (I1.hok.fresh (Nat.le_refl _))
noncomputable def zxR(ta:TA):TI:=fun σ H R=>ta σ H fun vs H1=>∃j:Int,vs=[.int j]/\ -(2 ^ 62)<=j/\j<2 ^ 62/\R (Itr 0 j.toNat) H1
noncomputable def zxS(ta:TA):TI:=fun σ H R=>ta σ H fun vs H1=>∃i j:Int,vs=[.int i,.int j]/\(-(2 ^ 62)<=i/\i<2 ^ 62/\ -(2 ^ 62)<=j/\j<2 ^ 62)/\R (Itr i (j-i).toNat) H1
theorem zmB{a:Expr}{ta:TA}{p pos:Pos}(hg:Gl X "range")(hm:X.mg "range"=none)(ha:PA X [a] ta)(hs:starEach [a] X.env=[(false,eval a X.env)]:=by rfl):PI X tg (.Call (.Name "range" p) [a] [] pos) (zxR ta):=by
 intro pins s σ H R I h
 refine Call_ (zit I hg hm boot_range (PyProof.Rows.callWith_type1 (thn (ha pos pins s σ H _ I h) fun us s1 ⟨vs,H1,I1,r1,q1⟩=>?_) hs rfl))
 obtain⟨j,e,q1,q2,q⟩:=q1
 subst e
 cases r1 with
 |cons r rr=>
  cases rr
  obtain⟨t,rfl⟩:=r
  exact call_range_1 (zkH I1 (by omega) (by omega) q1 q2 (by simpa using q))
theorem zmC{a b:Expr}{ta:TA}{p pos:Pos}(hg:Gl X "range")(hm:X.mg "range"=none)(ha:PA X [a,b] ta)(hs:starEach [a,b] X.env=[(false,eval a X.env),(false,eval b X.env)]:=by rfl)(hs2:starEach [b] X.env=[(false,eval b X.env)]:=by rfl):
  PI X tg (.Call (.Name "range" p) [a,b] [] pos) (zxS ta):=by
 intro pins s σ H R I h
 refine Call_ (zit I hg hm boot_range (PyProof.Rows.callWith_type1 (thn (ha pos pins s σ H _ I h) fun us s1 ⟨vs,H1,I1,r1,q1⟩=>?_) (by rw[hs,hs2]) (by rw[hs2];rfl)))
 obtain⟨i,j,e,⟨q1,q2,q3,q4⟩,q⟩:=q1
 subst e
 cases r1 with
 |cons r rr=>
  cases rr with
  |cons r' rr=>
   cases rr
   obtain⟨t,rfl⟩:=r
   obtain⟨t',rfl⟩:=r'
   exact call_range_2 (zkH I1 q1 q2 q3 q4 q)
noncomputable def zAB(wi:TI)(g:TG)(tb:TS):TS:=fun D σ H=>wi σ H fun J H1=>∃W:Nat->Nat->St->Hp->Prop,(∃m,W 0 m σ H1)/\∀i m σ H,W i m σ H->
 (J.stop i H/\D.nx σ H)\/(J.go i H/\∃N:St->Hp->Prop,(∀σ' H',N σ' H'->∃m',m'<m/\W (i+1) m' σ' H')/\∀x H',J.yld i H x H'->g x σ H' fun σ2 H2=>tb { D with nx:=N,ct:=N,bk:=D.nx } σ2 H2)
noncomputable def ziu(fp:List Addr)(h:Heap):List (Addr×Obj):=fp.filterMap fun b=>(h.get? b).map fun o=>(b,o)
theorem zdd{fp:List Addr}{h:Heap}{b:Addr}{o:Obj}(hb:b∈fp)(e:h.get? b=some o):(b,o)∈ziu fp h:=List.mem_filterMap.mpr ⟨b,hb,by rw[e];rfl⟩
theorem zmD{fp:List Addr}{h:Heap}{p:Addr×Obj}(hp:p∈ziu fp h):p.1∈fp/\h.get? p.1=some p.2:=by
 obtain⟨b,hb,e⟩:=List.mem_filterMap.mp hp
 cases q:h.get? b with
 |none=>rw[q] at e;cases e
 |some o=>
  rw[q] at e
  have e':(b,o)=p:=Option.some.inj e
  subst e'
  exact⟨hb,q⟩
theorem Inv.pinned{pins:List (Addr×Obj)}{σ:St}{H:Hp}{s:Shared}{fp:List Addr}(I:Inv X pins σ H s)(hf: ∀b∈fp,zmt X pins H b)(ho: ∀b∈fp,∃o,s.heap.get? b=some o/\∀v,o.data≠ .cell v):Inv X (pins++ziu fp s.heap) σ H s:=
 I.pins_of fun p hp=>(List.mem_append.mp hp).elim (fun z=>I.pin p (List.mem_append_right _ z)) fun z=>by
  obtain⟨hb,e⟩:=zmD z
  obtain⟨f0,f1,f2,_⟩:=hf p.1 hb
  obtain⟨o,e',d⟩:=ho p.1 hb
  rw[e] at e';cases e'
  exact⟨e,f0,f1,f2,d⟩
theorem Inv.unpinned{pins pl:List (Addr×Obj)}{σ:St}{H:Hp}{s:Shared}(I:Inv X (pins++pl) σ H s):Inv X pins σ H s:=I.pins_of fun p hp=>I.pin p (List.mem_append_right _ (List.mem_append_left _ hp))
theorem zqq{iter:Expr}{body:List Stmt}{wi:TI}{g:TG}{tb:TS}{pos:Pos}(hp:PassesOwn (model X.prog X.w) X.A X.env X.xe)(hc:X.calm=true)(hi:PI X tg iter wi)(hg:PG X tg g)(hb:PSs X body tb)
  (hs: ∀x,foldedSetIterable iter X.env x=pure x:=by intro _;rfl):PS X (.For tg iter body [] pos) (zAB wi g tb):=by
 intro pins s σ H D I h
 refine wpAny_For (thn (hi pins s σ H _ I h) fun v s1 h1=>thn h1 fun itv s2 h2=>?_) hs
 obtain⟨it,fp,tn,J,H2,e,I2,T,st2,f2,W,⟨m0,w0⟩,turn⟩:=h2
 subst e
 have stat: ∀{H':Hp},(∀b∈fp,H' b=none)->∀b∈fp,zmt X pins H' b:=fun hn b hb=>⟨hn b hb,(f2 b hb).2⟩
 refine codeAny_forLoop_any (fun n s'=>∃i σ' H',Inv X pins σ' H' s'/\tn i s'.heap/\(∀b∈fp,H' b=none)/\W i n σ' H') ?_ m0 ⟨0,σ,H2,I2,st2,fun b hb=>(f2 b hb).1,w0⟩
 rintro n s3 ⟨i,σ3,H3,I3,st3,fr3,w3⟩
 rcases turn i n σ3 H3 w3 with ⟨stop,qn⟩|⟨go,N,hN,step⟩
 ·refine wpAny_passesOwn hp (thn (T.done X rfl rfl rfl hc i pins s3 σ3 H3 X.xe I3 (stat fr3) st3 stop) fun r s4 ⟨hr,I4⟩=>?_)
  subst hr
  exact wpAny_execs_nil ⟨σ3,H3,I4,qn⟩
 ·refine wpAny_passesOwn hp (thn (T.item X rfl rfl rfl hc i pins s3 σ3 H3 X.xe I3 (stat fr3) st3 go) fun r s4 ⟨u,hr,h4⟩=>?_)
  subst hr
  refine wpAny_passesOwn hp (thn h4 fun _ s5 ⟨x,H5,I5,r5,y5,st5,fr5⟩=>?_)
  have I5':=I5.pinned (stat fr5) (T.obj _ _ st5)
  refine wpAny_passesOwn hp (thn (hg _ s5 σ3 H5 x u _ I5' r5 (step x H5 y5)) fun _ s6 ⟨σ6,H6,I6,q6⟩=>?_)
  refine wpAny_passesOwn hp (thn (hb _ s6 σ6 H6 _ I6 q6) fun f s7 q7=>?_)
  have again: ∀{σ7:St} {H7:Hp},Inv X (pins++ziu fp s5.heap) σ7 H7 s7->N σ7 H7->∃m,m<n/\∃i σ' H',Inv X pins σ' H' s7/\tn i s7.heap/\(∀b∈fp,H' b=none)/\W i m σ' H':=fun {σ7 H7} I7 n7=>by
   obtain⟨m',hm,w7⟩:=hN σ7 H7 n7
   refine⟨m',hm,i+1,σ7,H7,I7.unpinned,T.keep _ _ _ st5 fun b hb o e=>(I7.pin (b,o) (List.mem_append_right _ (List.mem_append_right _ (zdd hb e)))).1,fun b hb=>?_,w7⟩
   obtain⟨o,e,d⟩:=T.obj _ _ st5 b hb
   exact (I7.pin (b,o) (List.mem_append_right _ (List.mem_append_right _ (zdd hb e)))).2.1
  cases f with
  |next=>obtain⟨σ7,H7,I7,n7⟩:=q7;exact again I7 n7
  |cont=>obtain⟨σ7,H7,I7,n7⟩:=q7;exact again I7 n7
  |brk=>obtain⟨σ7,H7,I7,q7⟩:=q7;exact⟨σ7,H7,I7.unpinned,q7⟩
  |ret v=>obtain⟨x7,σ7,H7,I7,r7,q7⟩:=q7;exact⟨x7,σ7,H7,I7.unpinned,r7,q7⟩
end
end L2
namespace L2
open PySem PySem.Spec PyProof.Rows
noncomputable abbrev R2:=V->V->Hp->VK->Prop
noncomputable def OpR(X:Cx)(f:Value->Value->Sem Value)(r:R2):Prop:=
 ∀(pins:List (Addr×Obj)) (s:Shared) (σ:St) (H:Hp) (x y:V) (v u:Value) (Q:VK),Inv X pins σ H s->RelV x v->RelV y u->r x y H Q->
  wpAny (model X.prog X.w) X.A (f v u) (EP X pins σ Q) X.xe s
noncomputable def CallR(X:Cx)(f:Value)(r:List V->Hp->VK->Prop):Prop:=
 ∀(pins:List (Addr×Obj)) (s:Shared) (σ:St) (H:Hp) (xs:List V) (us:List Value) (Q:VK),Inv X pins σ H s->Vals xs us->r xs H Q->
  wpAny (model X.prog X.w) X.A (call f us) (EP X pins σ Q) X.xe s
noncomputable def zAC(X:Cx)(r:V->Hp->(Bool->Hp->Prop)->Prop):Prop:=
 ∀(pins:List (Addr×Obj)) (s:Shared) (σ:St) (H:Hp) (x:V) (v:Value) (Q:Bool->Hp->Prop),Inv X pins σ H s->RelV x v->r x H Q->
  wpAny (model X.prog X.w) X.A (truthy v) (TP X pins σ Q) X.xe s
noncomputable def tOp(r:R2)(ta tb:TE):TE:=fun σ H Q=>ta σ H fun x H1=>tb σ H1 fun y H2=>r x y H2 Q
noncomputable def rI(C:Int->Int->Prop)(g:Int->Int->V):R2:=fun x y H Q=>∃i j,x= .int i/\y= .int j/\C i j/\Q (g i j) H
noncomputable def rI0(g:Int->Int->V):R2:=fun x y H Q=>∃i j,x= .int i/\y= .int j/\Q (g i j) H
section
variable {X:Cx} {a b c:Expr} {ta tb tc:TE} {pos:Pos}
theorem zxT(ha:PE X a ta)(hb:PE X b tb){pins:List (Addr×Obj)}{s:Shared}{σ:St}{H:Hp}{R:V->V->Hp->Prop}(I:Inv X pins σ H s)
  (h:ta σ H fun x H1=>tb σ H1 fun y H2=>R x y H2) {Q:Value->Shared->Prop} {f:Value->Value->Sem Value}
  (hf: ∀v u s2 x y H2,Inv X pins σ H2 s2->RelV x v->RelV y u->R x y H2->wpAny (model X.prog X.w) X.A (f v u) Q X.xe s2):
  wpAny (model X.prog X.w) X.A (eval a X.env) (fun v s₁=>wpAny (model X.prog X.w) X.A (eval b X.env) (fun u s₂=>wpAny (model X.prog X.w) X.A (f v u) Q X.xe s₂) X.xe s₁) X.xe s:=by
 refine thn (ha pins s σ H _ I h) fun v s1 ⟨x,H1,I1,r1,q1⟩=>?_
 refine thn (hb pins s1 σ H1 _ I1 q1) fun u s2 ⟨y,H2,I2,r2,q2⟩=>?_
 exact hf v u s2 x y H2 I2 r1 r2 q2
theorem zxU{op:Operator}{r:R2}(ho:OpR X (binaryOp op) r)(ha:PE X a ta)(hb:PE X b tb):PE X (.BinOp a op b pos) (tOp r ta tb):=by
 intro pins s σ H Q I h
 exact wpAny_BinOp (zxT ha hb I h fun v u s2 x y H2 I2 rx ry q=>ho pins s2 σ H2 x y v u Q I2 rx ry q)
theorem opI{f:Value->Value->Sem Value}{C:Int->Int->Prop}{g:Int->Int->Int}
  (rule: ∀(i j:Int) (t u:Tok) (s:Shared) (Q:Value->Shared->Prop) (E:Value->Shared->Prop),C i j->Q (.int (g i j) s.toks) { s with toks:=s.toks+1 }->wpAny (model X.prog X.w) X.A (f (.int i t) (.int j u)) Q E s):
  OpR X f (rI C fun i j=>.int (g i j)):=by
 intro pins s σ H x y v u Q I rx ry h
 obtain⟨i,j,rfl,rfl,hc,q⟩:=h
 obtain⟨t,rfl⟩:=rx
 obtain⟨t',rfl⟩:=ry
 exact rule i j t t' s _ _ hc ⟨.int (g i j),H,I.tok _,⟨_,rfl⟩,q⟩
theorem zzG{f:Value->Value->Sem Value}{g:Int->Int->Int}
  (rule: ∀(i j:Int) (t u:Tok) (s:Shared) (Q:Value->Shared->Prop) (E:Value->Shared->Prop),Q (.int (g i j) s.toks) { s with toks:=s.toks+1 }->wpAny (model X.prog X.w) X.A (f (.int i t) (.int j u)) Q E s):
  OpR X f (rI0 fun i j=>.int (g i j)):=by
 intro pins s σ H x y v u Q I rx ry h
 obtain⟨i,j,rfl,rfl,q⟩:=h
 obtain⟨t,rfl⟩:=rx
 obtain⟨t',rfl⟩:=ry
 exact rule i j t t' s _ _ ⟨.int (g i j),H,I.tok _,⟨_,rfl⟩,q⟩
theorem zwg{f:Value->Value->Sem Value}{g:Int->Int->Bool}
  (rule: ∀(i j:Int) (t u:Tok) (s:Shared) (Q:Value->Shared->Prop) (E:Value->Shared->Prop),Q (.bool (g i j)) s->wpAny (model X.prog X.w) X.A (f (.int i t) (.int j u)) Q E s):
  OpR X f (rI0 fun i j=>.bl (g i j)):=by
 intro pins s σ H x y v u Q I rx ry h
 obtain⟨i,j,rfl,rfl,q⟩:=h
 obtain⟨t,rfl⟩:=rx
 obtain⟨t',rfl⟩:=ry
 exact rule i j t t' s _ _ ⟨.bl (g i j),H,I,rfl,q⟩
noncomputable def zAD(i j:Int):Prop:=0<j/\j<1073741824
noncomputable def CMul(i j:Int):Prop:=(-(2 ^ 64)<i/\i<2 ^ 64)\/(-(2 ^ 64)<j/\j<2 ^ 64)
theorem CMul.ok{i j:Int}(h:CMul i j):IntMulOk i j:=by
 rcases h with ⟨h1,h2⟩|⟨h1,h2⟩
 ·exact .of_left (intBits_le_64 h1 h2)
 ·exact .of_right (intBits_le_64 h1 h2)
theorem ztj:OpR X (binaryOp .Add) (rI0 fun i j=>.int (i+j)):=zzG fun _ _ _ _ _ _ _ q=>add_int q
theorem ztk:OpR X (binaryOp .Sub) (rI0 fun i j=>.int (i-j)):=zzG fun _ _ _ _ _ _ _ q=>sub_int q
theorem ztl:OpR X (binaryOp .Mult) (rI CMul fun i j=>.int (i*j)):=opI fun _ _ _ _ _ _ _ hc q=>mul_int q hc.ok
theorem zrj:OpR X (binaryOp .FloorDiv) (rI zAD fun i j=>.int (i/j)):=opI fun i j _ _ _ _ _ hc q=>by
 have h1:(0:Int)<j:=hc.1
 have h2:j<1073741824:=hc.2
 exact floordiv_int (by omega) (by rw[Int.fdiv_eq_ediv_of_nonneg i (by omega)];exact q) (.inl (PyProof.noPylong_small (by omega)))
theorem ztm:OpR X (binaryOp .Mod) (rI (fun _ j=>0<j) fun i j=>.int (i%j)):=opI fun i j _ _ _ _ _ hc q=>by
 have h1:(0:Int)<j:=hc
 exact mod_int' (by omega) (by rw[Int.fmod_eq_emod_of_nonneg i (by omega)];exact q)
end
noncomputable def zzH:V->V->Bool
 | .non,.non=>true| .non,.int _=>true| .int _,.non=>true| .non,.bl _=>true| .bl _,.non=>true| .non,.str _=>true| .str _,.non=>true
 | .int _,.int _=>true| .bl _,.bl _=>true| .str _,.str _=>true| .byt _,.byt _=>true
 | .int _,.str _=>true| .str _,.int _=>true| .bl _,.str _=>true| .str _,.bl _=>true
 |_,_=>false
noncomputable def rEq:R2:=fun x y H Q=>zzH x y=true/\Q (.bl (decide (x=y))) H
noncomputable def rNe:R2:=fun x y H Q=>zzH x y=true/\Q (.bl (!decide (x=y))) H
theorem zmE{i j:Int}:decide (V.int i=V.int j)=(i==j):=by
 rw[Bool.eq_iff_iff]
 simp
theorem zqr{i j:Bool}:decide (V.bl i=V.bl j)=(i==j):=by
 rw[Bool.eq_iff_iff]
 simp
theorem zmF{i j:Str}:decide (V.str i=V.str j)=(i==j):=by
 rw[Bool.eq_iff_iff]
 simp
theorem zmG{i j:Array UInt8}:decide (V.byt i=V.byt j)=(i.toList==j.toList):=by
 rw[Bool.eq_iff_iff]
 cases i
 cases j
 simp
section
variable {X:Cx} {a b c:Expr} {ta tb tc:TE} {pos:Pos}
theorem za2{pins:List (Addr×Obj)}{σ:St}{H:Hp}{s:Shared}{Q:VK}{k k':Bool}(I:Inv X pins σ H s)(q:Q (.bl k) H)(e:k=k'):EP X pins σ Q (.bool k') s:=by
 subst e
 exact⟨.bl k,H,I,rfl,q⟩
theorem zxV:OpR X (compareOp .Eq) rEq:=by
 intro pins s σ H x y v u Q I rx ry h
 obtain⟨hs,q⟩:=h
 cases x with
 |non=>
  cases rx
  cases y with
  |non=>cases ry;exact PySem.EqNone.eq_none_none (za2 I q (by simp))
  |bl j=>cases ry;exact PySem.EqNone.eq_none_bool (za2 I q (by simp))
  |int j=>obtain⟨t',rfl⟩:=ry;exact PySem.EqNone.eq_none_int (za2 I q (by simp))
  |str j=>obtain⟨t',rfl⟩:=ry;exact PySem.EqNone.eq_none_str (za2 I q (by simp))
  |_=>exact absurd (show false=true from hs) Bool.false_ne_true
 |bl i=>
  cases rx
  cases y with
  |non=>cases ry;exact PySem.EqNone.eq_bool_none (za2 I q (by simp))
  |bl j=>cases ry;exact eq_bool (za2 I q zqr)
  |str j=>obtain⟨t',rfl⟩:=ry;exact PySem.EqMixed.eq_bool_str (za2 I q (by simp))
  |_=>exact absurd (show false=true from hs) Bool.false_ne_true
 |int i=>
  obtain⟨t,rfl⟩:=rx
  cases y with
  |non=>cases ry;exact PySem.EqNone.eq_int_none (za2 I q (by simp))
  |int j=>obtain⟨t',rfl⟩:=ry;exact eq_int (za2 I q zmE)
  |str j=>obtain⟨t',rfl⟩:=ry;exact PySem.EqMixed.eq_int_str (za2 I q (by simp))
  |_=>exact absurd (show false=true from hs) Bool.false_ne_true
 |str i=>
  obtain⟨t,rfl⟩:=rx
  cases y with
  |non=>cases ry;exact PySem.EqNone.eq_str_none (za2 I q (by simp))
  |bl j=>cases ry;exact PySem.EqMixed.eq_str_bool (za2 I q (by simp))
  |int j=>obtain⟨t',rfl⟩:=ry;exact PySem.EqMixed.eq_str_int (za2 I q (by simp))
  |str j=>obtain⟨t',rfl⟩:=ry;exact eq_str (za2 I q zmF)
  |_=>exact absurd (show false=true from hs) Bool.false_ne_true
 |byt i=>
  obtain⟨t,rfl⟩:=rx
  cases y with
  |byt j=>obtain⟨t',rfl⟩:=ry;exact PySem.W.eq_bytes (za2 I q zmG)
  |_=>exact absurd (show false=true from hs) Bool.false_ne_true
 |_=>cases y<;>exact absurd (show false=true from hs) Bool.false_ne_true
theorem zxW:OpR X (compareOp .NotEq) rNe:=by
 intro pins s σ H x y v u Q I rx ry h
 obtain⟨hs,q⟩:=h
 cases x with
 |non=>
  cases rx
  cases y with
  |non=>cases ry;exact PySem.EqNone.ne_none_none (za2 I q (by simp))
  |bl j=>cases ry;exact PySem.EqNone.ne_none_bool (za2 I q (by simp))
  |int j=>obtain⟨t',rfl⟩:=ry;exact PySem.EqNone.ne_none_int (za2 I q (by simp))
  |str j=>obtain⟨t',rfl⟩:=ry;exact PySem.EqNone.ne_none_str (za2 I q (by simp))
  |_=>exact absurd (show false=true from hs) Bool.false_ne_true
 |bl i=>
  cases rx
  cases y with
  |non=>cases ry;exact PySem.EqNone.ne_bool_none (za2 I q (by simp))
  |bl j=>cases ry;exact ne_bool (za2 I q (congrArg not zqr))
  |str j=>obtain⟨t',rfl⟩:=ry;exact PySem.EqMixed.ne_bool_str (za2 I q (by simp))
  |_=>exact absurd (show false=true from hs) Bool.false_ne_true
 |int i=>
  obtain⟨t,rfl⟩:=rx
  cases y with
  |non=>cases ry;exact PySem.EqNone.ne_int_none (za2 I q (by simp))
  |int j=>obtain⟨t',rfl⟩:=ry;exact ne_int (za2 I q (congrArg not zmE))
  |str j=>obtain⟨t',rfl⟩:=ry;exact PySem.EqMixed.ne_int_str (za2 I q (by simp))
  |_=>exact absurd (show false=true from hs) Bool.false_ne_true
 |str i=>
  obtain⟨t,rfl⟩:=rx
  cases y with
  |non=>cases ry;exact PySem.EqNone.ne_str_none (za2 I q (by simp))
  |bl j=>cases ry;exact PySem.EqMixed.ne_str_bool (za2 I q (by simp))
  |int j=>obtain⟨t',rfl⟩:=ry;exact PySem.EqMixed.ne_str_int (za2 I q (by simp))
  |str j=>obtain⟨t',rfl⟩:=ry;exact ne_str (za2 I q (congrArg not zmF))
  |_=>exact absurd (show false=true from hs) Bool.false_ne_true
 |byt i=>
  obtain⟨t,rfl⟩:=rx
  cases y with
  |byt j=>obtain⟨t',rfl⟩:=ry;exact PySem.W.ne_bytes (za2 I q (congrArg not zmG))
  |_=>exact absurd (show false=true from hs) Bool.false_ne_true
 |_=>cases y<;>exact absurd (show false=true from hs) Bool.false_ne_true
theorem zxX:OpR X (compareOp .Lt) (rI0 fun i j=>.bl (decide (i<j))):=zwg fun _ _ _ _ _ _ _ q=>lt_int q
theorem zxY:OpR X (compareOp .LtE) (rI0 fun i j=>.bl (decide (i<=j))):=zwg fun _ _ _ _ _ _ _ q=>le_int q
theorem zxZ:OpR X (compareOp .Gt) (rI0 fun i j=>.bl (decide (j<i))):=zwg fun _ _ _ _ _ _ _ q=>gt_int q
theorem zx0:OpR X (compareOp .GtE) (rI0 fun i j=>.bl (decide (j<=i))):=zwg fun _ _ _ _ _ _ _ q=>ge_int q
theorem OpR.or{f:Value->Value->Sem Value}{r r':R2}(h:OpR X f r)(h':OpR X f r'):OpR X f (fun x y H Q=>r x y H Q\/r' x y H Q):=by
 intro pins s σ H x y v u Q I rx ry q
 rcases q with q|q
 ·exact h pins s σ H x y v u Q I rx ry q
 ·exact h' pins s σ H x y v u Q I rx ry q
theorem zbd(b:Expr){op:CmpOp}(h:op≠ .In:=by decide)(h2:op≠ .NotIn:=by decide):behindInMarks op b=false:=by
 have e1:(op==CmpOp.In)=false:=by cases op<;>first|rfl|exact absurd rfl h
 have e2:(op==CmpOp.NotIn)=false:=by cases op<;>first|rfl|exact absurd rfl h2
 cases b<;>simp[behindInMarks,e1,e2]
theorem zrk{op:CmpOp}{r:R2}(ho:OpR X (compareOp op) r)(ha:PE X a ta)(hb:PE X b tb)(hm:behindInMarks op b=false):PE X (.Compare a [op] [b] pos) (tOp r ta tb):=by
 intro pins s σ H Q I h
 exact wpAny_Compare1 (zxT ha hb I h fun v u s2 x y H2 I2 rx ry q=>ho pins s2 σ H2 x y v u Q I2 rx ry q) hm
noncomputable def ztn(t:TE):TT:=fun σ H Q=>t σ H fun x H'=>∃k,x= .bl k/\Q k H'
theorem zrl{op:CmpOp}{r:R2}(ho:OpR X (compareOp op) r)(ha:PE X a ta)(hb:PE X b tb)(hm:behindInMarks op b=false):PT X (.Compare a [op] [b] pos) (ztn (tOp r ta tb)):=by
 intro pins s σ H Q I h
 refine wpAny_isTrue_Compare1 (thn (ha pins s σ H _ I h) fun v s1 ⟨x,H1,I1,r1,q1⟩=>thn (hb pins s1 σ H1 _ I1 q1) fun u s2 ⟨y,H2,I2,r2,q2⟩=>
  thn (ho pins s2 σ H2 x y v u _ I2 r1 r2 q2) fun c s3 ⟨z,H3,I3,r3,k,e,q3⟩=>?_) hm
 subst e
 cases r3
 exact wpAny_truthy_bool ⟨H3,I3,q3⟩
noncomputable def zqs(r r':R2)(ta tb tc:TE):TE:=fun σ H Q=>ta σ H fun x H1=>tb σ H1 fun y H2=>r x y H2 fun z H3=>∃k,z= .bl k/\
 (if k=true then tc σ H3 fun w' H4=>r' y w' H4 Q else Q (.bl false) H3)
theorem zo5{op op':CmpOp}{r r':R2}(ho:OpR X (compareOp op) r)(ho':OpR X (compareOp op') r')(ha:PE X a ta)(hb:PE X b tb)(hc:PE X c tc)
  (hm:lastMarks [op,op'] [b,c]=false:=by with_unfolding_all rfl):PE X (.Compare a [op,op'] [b,c] pos) (zqs r r' ta tb tc):=by
 intro pins s σ H Q I h
 refine Compare_chain (thn (ha pins s σ H _ I h) fun v s1 ⟨x,H1,I1,r1,q1⟩=>chain_link (thn (hb pins s1 σ H1 _ I1 q1) fun u s2 ⟨y,H2,I2,r2,q2⟩=>
  thn (ho pins s2 σ H2 x y v u _ I2 r1 r2 q2) fun d s3 ⟨z,H3,I3,r3,k,e,q3⟩=>?_)) hm
 subst e
 cases r3
 refine wpAny_truthy_bool ?_
 cases k with
 |false=>exact ite_ff ⟨.bl false,H3,I3,rfl,q3⟩
 |true=>exact ite_tt (chain_last (thn (hc pins s3 σ H3 _ I3 q3) fun w' s4 ⟨z',H4,I4,r4,q4⟩=>ho' pins s4 σ H4 y z' u w' Q I4 r2 r4 q4))
theorem zo6{op op':CmpOp}{r r':R2}(ho:OpR X (compareOp op) r)(ho':OpR X (compareOp op') r')(ha:PE X a ta)(hb:PE X b tb)(hc:PE X c tc)
  (hm:lastMarks [op,op'] [b,c]=false:=by with_unfolding_all rfl):PT X (.Compare a [op,op'] [b,c] pos) (ztn (zqs r r' ta tb tc)):=by
 intro pins s σ H Q I h
 refine isTrue_chain (thn (ha pins s σ H _ I h) fun v s1 ⟨x,H1,I1,r1,q1⟩=>test_link (thn (hb pins s1 σ H1 _ I1 q1) fun u s2 ⟨y,H2,I2,r2,q2⟩=>
  thn (ho pins s2 σ H2 x y v u _ I2 r1 r2 q2) fun d s3 ⟨z,H3,I3,r3,k,e,q3⟩=>?_)) hm
 subst e
 cases r3
 refine wpAny_truthy_bool ?_
 cases k with
 |false=>
  obtain⟨k',e',q'⟩:=q3
  cases e'
  exact ite_ff ⟨H3,I3,q'⟩
 |true=>
  refine ite_tt (test_last (thn (hc pins s3 σ H3 _ I3 q3) fun w' s4 ⟨z',H4,I4,r4,q4⟩=>thn (ho' pins s4 σ H4 y z' u w' _ I4 r2 r4 q4) fun d' s5 ⟨z2,H5,I5,r5,k2,e2,q5⟩=>?_))
  subst e2
  cases r5
  exact wpAny_truthy_bool ⟨H5,I5,q5⟩
noncomputable def zx1(K:PySem.W.Frag)(x:V)(H:Hp)(k:Bool):Prop:=
 match x with
 | .non=>k=false
 | .bl b=>k=b
 | .int i=>k=(i != 0)
 | .str y=>y.length<=sizeLine/\k=((y.length:Int) != 0)
 | .byt y=>y.size<=sizeLine/\k=((y.size:Int) != 0)
 | .ref p=>(∃xs,SqL K H p xs/\k= !xs.isEmpty)\/(∃xs,SqT K H p xs/\k= !xs.isEmpty)\/∃kvs,H p=some (.dK kvs)/\k= !kvs.isEmpty
 |_=>False
theorem zlO{κ:Type}{kvs:List (κ×V)}{vs:List (κ×Value)}(r:KV kvs vs):(!vs.isEmpty)= !kvs.isEmpty:=by
 cases r<;>rfl
theorem zgL{xs:List V}{its:List Value}(r:Vals xs its):(!its.toArray.isEmpty)= !xs.isEmpty:=by
 cases r<;>simp
theorem zkI:(sizeLine:Nat)<2 ^ 63:=by rw[sizeLine_eq];decide
theorem zto:zAC X (fun x H Q=>∃k,zx1 X.K x H k/\Q k H):=by
 intro pins s σ H x v Q I rx h
 obtain⟨k,e,q⟩:=h
 have hl:=zkI
 have hs:sizeLine=16777216:=sizeLine_eq
 cases x with
 |non=>
  cases rx
  have e':k=false:=e
  subst e'
  exact truthy_none ⟨H,I,q⟩
 |bl b=>
  cases rx
  have e':k=b:=e
  subst e'
  exact wpAny_truthy_bool ⟨H,I,q⟩
 |int i=>
  obtain⟨t,rfl⟩:=rx
  have e':k=(i != 0):=e
  subst e'
  exact PySem.P.truthy_int ⟨H,I,q⟩
 |str y=>
  obtain⟨t,rfl⟩:=rx
  obtain⟨hy,e'⟩:y.length<=sizeLine/\k=((y.length:Int) != 0):=e
  subst e'
  exact PySem.P.truthy_str (by omega) ⟨H,I.tok _,q⟩
 |byt y=>
  obtain⟨t,rfl⟩:=rx
  obtain⟨hy,e'⟩:y.size<=sizeLine/\k=((y.size:Int) != 0):=e
  subst e'
  exact PySem.W.truthy_bytes (by omega) ⟨H,I.tok _,q⟩
 |ref p=>
  cases rx
  have e':(∃xs,SqL X.K H p xs/\k= !xs.isEmpty)\/(∃xs,SqT X.K H p xs/\k= !xs.isEmpty)\/∃kvs,H p=some (.dK kvs)/\k= !kvs.isEmpty:=e
  rcases e' with ⟨xs,hx,e'⟩|⟨xs,hx,e'⟩|⟨kvs,hx,e'⟩
  ·subst e'
   obtain⟨its,r,pl,hz⟩:=I.list hx
   have hlen:=r.length
   exact wpAny_truthy_list pl.isList (by simp only[List.size_toArray];omega) ⟨H,I.tok _,by rw[zgL r];exact q⟩
  ·subst e'
   obtain⟨its,r,pl,hz⟩:=I.tuple hx
   have hlen:=r.length
   exact truthy_tuple pl (by simp only[List.size_toArray];omega) ⟨H,I.tok _,by rw[zgL r];exact q⟩
  ·subst e'
   obtain⟨hz,hS,vs,r,m⟩:kvs.length<=sizeLine/\(p==sysModules)=false/\∃vs,KV kvs vs/\s.heap.DictOf (za6 X.prog X.w) p vs:=I.hok p _ hx
   have hlen:kvs.length=vs.length:=Paired.length r
   exact wpAny_truthy_dict hS m (by omega) ⟨H,I.tok _,by rw[zlO r];exact q⟩
 |_=>exact (show False from e).elim
theorem zkJ(ha:PE X a ta)(he: ∀whole,isTrue a X.env whole=(do let v <-whole;standAt a.pos;holding [v] (truthy v))):
  PT X a (fun σ H Q=>ta σ H fun x H'=>∃k,zx1 X.K x H' k/\Q k H'):=by
 intro pins s σ H Q I h
 exact isTrue_plain (thn (ha pins s σ H _ I h) fun v s1 ⟨x,H1,I1,r1,q1⟩=>zto pins s1 σ H1 x v Q I1 r1 q1) (he _)
theorem zhf{x:V}{us:List Value}(r:Vals [x] us): ∃u,us=[u]/\RelV x u:=by
 cases r with
 |cons r1 r2=>cases r2;exact⟨_,rfl,r1⟩
theorem zrm{x y:V}{us:List Value}(r:Vals [x,y] us): ∃u w',us=[u,w']/\RelV x u/\RelV y w':=by
 cases r with
 |cons r1 r2=>
  cases r2 with
  |cons r3 r4=>cases r4;exact⟨_,_,rfl,r1,r3⟩
theorem zo7:CallR X (.builtin "abs") (fun xs H Q=>∃i,xs=[.int i]/\Q (.int (if i<0 then -i else i)) H):=by
 intro pins s σ H xs us Q I r h
 obtain⟨i,rfl,q⟩:=h
 obtain⟨u,rfl,t,rfl⟩:=zhf r
 exact call_abs_int fun u tk=>⟨.int (if i<0 then -i else i),H,I.tok _,⟨_,rfl⟩,q⟩
theorem zmH(hc:X.calm=true):CallR X (.builtin "max") (fun xs H Q=>∃i j,xs=[.int i,.int j]/\Q (.int (if j>i then j else i)) H):=by
 intro pins s σ H xs us Q I r h
 obtain⟨i,j,rfl,q⟩:=h
 obtain⟨u,w',rfl,⟨t,rfl⟩,⟨t',rfl⟩⟩:=zrm r
 refine max_two_ints (I.ok.hd hc) fun h' tk k=>⟨_,H,I.kept k,?_,q⟩
 by_cases hj:j>i
 ·rw[if_pos hj,if_pos hj];exact⟨_,rfl⟩
 ·rw[if_neg hj,if_neg hj];exact⟨_,rfl⟩
theorem zmI(hc:X.calm=true):CallR X (.builtin "min") (fun xs H Q=>∃i j,xs=[.int i,.int j]/\Q (.int (if j<i then j else i)) H):=by
 intro pins s σ H xs us Q I r h
 obtain⟨i,j,rfl,q⟩:=h
 obtain⟨u,w',rfl,⟨t,rfl⟩,⟨t',rfl⟩⟩:=zrm r
 refine min_two_ints (I.ok.hd hc) fun h' tk k=>⟨_,H,I.kept k,?_,q⟩
 by_cases hj:j<i
 ·rw[if_pos hj,if_pos hj];exact⟨_,rfl⟩
 ·rw[if_neg hj,if_neg hj];exact⟨_,rfl⟩
end
end L2
namespace L2
open PySem PySem.Spec PyProof.Rows
structure ObjM (h:Heap)(x dx C:Addr)(mA:Str->Option Value):Prop where
 obj:h.get? x=some (PySem.W.instObj C dx)
 ns:h.Ns1 dx mA
 ne:dx≠x
theorem zmJ{h:Heap}{dx:Addr}{mA:Str->Option Value}(n:h.Ns1 dx mA): ∃od,h.get? dx=some od/\∀name,PySem.W.lookIn name od=some (mA name):=by
 obtain⟨o,es,ep,ho,hd,hk,_,hm⟩:=n
 refine⟨o,ho,fun name=>?_⟩
 have e:=hm name
 unfold nsFind findBy at e
 rw[<-Array.find?_toList] at e
 unfold PySem.W.lookIn
 rw[hd]
 dsimp only
 split
 ·rename_i y q
  rw[q] at e
  exact congrArg some e
 ·rename_i q
  rw[q] at e
  have a:es.toList.any (·.refKey)=false:=by
   rw[List.any_eq_false]
   intro y hy
   obtain⟨z,t,hkey⟩:=hk y (Array.mem_toList_iff.mp hy)
   simp[DictEntry.refKey,hkey]
  have a': ¬es.toList.any (·.refKey)=true:=by rw[a];exact Bool.false_ne_true
  rw[if_neg a']
  exact congrArg some e
theorem ObjM.look{h:Heap}{x dx C:Addr}{mA:Str->Option Value}(I:ObjM h x dx C mA): ∃od,PySem.W.InstAt h x (PySem.W.instObj C dx) C (some od)/\∀name,PySem.W.lookIn name od=some (mA name):=
 let ⟨od,ho,hl⟩:=zmJ I.ns
 ⟨od,⟨I.obj,rfl,rfl,ho⟩,hl⟩
theorem RelO.some_of{v:V}{o:Option Value}(r:RelO (some v) o): ∃u,o=some u/\RelV v u:=by
 cases o with
 |none=>exact (show False from r).elim
 |some u=>exact⟨u,rfl,r⟩
section
variable {P:Program} {w:World} {H H':Hp} {h h':Heap} {a C dx:Addr} {fs fs':List (Str×V)}
theorem ins_get(hok:HOk P w H h)(e:H a=some (.ins C dx fs)): ∃mA,ObjM h a dx C mA/\(∀f,RelO (fs.lookup f) (mA f))/\PySem.Within mA (fs.map (·.1))/\fs.length<=1000/\H dx=some (.own a):=by
 obtain⟨d,z,ne,ob,mA,n,r,q⟩:=(show ObjOk P w H h a (.ins C dx fs) from hok a _ e)
 exact⟨mA,⟨ob,n,ne⟩,r,q,z,d⟩
end
structure Cls (K:PySem.W.Frag)(C:Addr):Prop where
 pg:PySem.W.plainGet K C Str.empty=true
 hd:PySem.W.hasDictIn K C=true
 po:PySem.W.plainOver K C=true
 sa:PySem.W.findIn K (.ref C) "__setattr__"=some (some (.builtin "object.__setattr__"))
theorem Cls.get{K:PySem.W.Frag}{C:Addr}(c:Cls K C)(f:Str):PySem.W.plainGet K C f=true:=c.pg
section
variable {X:Cx} {pins:List (Addr×Obj)} {σ:St} {H:Hp} {s:Shared} {a C dx:Addr} {fs:List (Str×V)} {f:Str} {v:V} {A:Around} {E:Value->Shared->Prop}
theorem Inv.made(I:Inv X pins σ H s):Inv X pins σ (upd (upd H s.heap.objs.size (.own (s.heap.objs.size+1))) (s.heap.objs.size+1) (.ins C s.heap.objs.size []))
  { s with heap:=(s.heap.push PySem.W.emptyDict).push (PySem.W.instObj C s.heap.objs.size) }:=by
 have e1:(s.heap.push PySem.W.emptyDict).get? s.heap.objs.size=some PySem.W.emptyDict:=Heap.get?_push_size s.heap rfl
 have e2:((s.heap.push PySem.W.emptyDict).push (PySem.W.instObj C s.heap.objs.size)).get? (s.heap.objs.size+1)=some (PySem.W.instObj C s.heap.objs.size):=by
  have:=Heap.get?_push_size (s.heap.push PySem.W.emptyDict) (o:=PySem.W.instObj C s.heap.objs.size) rfl
  rwa [Heap.size_push] at this
 have e3:(s.heap.push PySem.W.emptyDict).Ns s.heap.objs.size (fun _=>none):=⟨PySem.W.emptyDict, #[],_,e1,rfl,(fun e he=>absurd he (by simp)),fun _=>rfl⟩
 have I1:=I.laid (a:=s.heap.objs.size) (o:=.own (s.heap.objs.size+1)) (h':=s.heap.push PySem.W.emptyDict) (t':=s.toks) (fun b u q=>Heap.get?_push_of_some _ q) (Nat.le_refl _) ⟨_,e1⟩
 refine I1.laid (a:=s.heap.objs.size+1) (o:=.ins C s.heap.objs.size []) (t':=s.toks) (fun b u q=>Heap.get?_push_of_some _ q) (Nat.le_of_eq (Heap.size_push _ _)) ?_
 have ne:s.heap.objs.size≠s.heap.objs.size+1:=Nat.ne_of_lt (Nat.lt_succ_self _)
 refine⟨by rw[za9 ne,zbe],Nat.zero_le _,ne,e2,fun _=>none,(Heap.Ns1.of_empty e3).at fun o q=>Heap.get?_push_of_some _ q,fun _=>True.intro,fun y hy=>absurd rfl hy⟩
end
end L2
namespace L2
open PySem PySem.Spec PyProof.Rows
structure Room (k:Nat)(A:Around):Prop where
 hd:A.handled=none
 dp:A.depth+3*k+5<recursionLimit
 un:A.units+16*k+200<cLine
theorem Room.mono{j k:Nat}{A:Around}(r:Room k A)(h:j<=k):Room j A:=⟨r.hd,by have:=r.dp;omega,by have:=r.un;omega⟩
theorem Room.deeper{k:Nat}{A:Around}(r:Room (k+1) A)(env:Env):Room k (A.deeper env):=
 ⟨r.hd,by have:=r.dp;show A.depth+1+3*k+5<_;omega,by have:=r.un;show A.units+3+16*k+200<_;omega⟩
theorem Room.in1{k:Nat}{A:Around}(r:Room (k+1) A):Room k A.in1:=
 ⟨r.hd,by have:=r.dp;show A.depth+3*k+5<_;omega,by have:=r.un;show A.units+1+16*k+200<_;omega⟩
theorem Room.depth{k:Nat}{A:Around}(r:Room k A):A.depth<recursionLimit:=by have:=r.dp;omega
theorem Room.units{k:Nat}{A:Around}(r:Room k A):A.units+64<cLine:=by have:=r.un;omega
noncomputable def zAE:TA:=fun _ H Q=>Q [] H
noncomputable def zx2(ta:TE)(tr:TA):TA:=fun σ H Q=>ta σ H fun x H1=>tr σ H1 fun xs H2=>Q (x::xs) H2
section
variable {X:Cx} {e:Expr} {es:List Expr} {te:TE} {t:TA} {pos:Pos}
theorem zgM:PA X [] zAE:=fun _ _ _ _ H Q I h=>Calls.spliced_nil ⟨[],H,I,.nil,h⟩
theorem zct(ha:PE X e te)(hr:PA X es t)(hs:starEach (e::es) X.env=(false,eval e X.env)::starEach es X.env:=by rfl):PA X (e::es) (zx2 te t):=by
 intro pos pins s σ H Q I h
 rw[hs]
 show wpAny _ _ (spliced ((false,eval e X.env)::backTo pos (starEach es X.env))) _ _ s
 refine Calls.spliced_cons (thn (ha pins s σ H _ I h) fun u s1 ⟨x,H1,I1,r1,q1⟩=>?_)
 exact thn (hr pos pins s1 σ H1 _ I1 q1) fun us s2 ⟨xs,H2,I2,r2,q2⟩=>⟨x::xs,H2,I2,.cons r1 r2,q2⟩
noncomputable def zAF(t:TA):TE:=fun σ H Q=>t σ H fun xs H1=>xs.length<=sizeLine/\∀p,H1 p=none->Q (.ref p) (upd H1 p (.tup xs))
noncomputable def zAG(t:TA):TE:=fun σ H Q=>t σ H fun xs H1=>xs.length<=sizeLine/\∀p,H1 p=none->Q (.ref p) (upd H1 p (.lst xs))
theorem ztp{x1}(h:PA X es t):PE X (.Tuple es x1 pos) (zAF t):=by
 intro pins s σ H Q I hq
 refine wpAny_Tuple_spliced (thn (h pos pins s σ H _ I hq) fun us s1 ⟨xs,H1,I1,r,z,q⟩=>⟨by rw[<-r.length];exact z,?_⟩)
 have hf:H1 s1.heap.objs.size=none:=I1.hok.fresh (Nat.le_refl _)
 refine⟨.ref s1.heap.objs.size,upd H1 s1.heap.objs.size (.tup xs),I1.laid (t':=s1.toks) (fun b u e=>Heap.get?_push_of_some _ e) (Nat.le_refl _) ?_,rfl,q _ hf⟩
 exact⟨z,us,r,⟨_,Heap.get?_push_size _ rfl,rfl,_,rfl⟩⟩
theorem ztq(h:PA X es t):PE X (.List es pos) (zAG t):=by
 intro pins s σ H Q I hq
 refine wpAny_List_spliced (thn (h pos pins s σ H _ I hq) fun us s1 ⟨xs,H1,I1,r,z,q⟩=>⟨by rw[<-r.length];exact z,?_⟩)
 have hf:H1 s1.heap.objs.size=none:=I1.hok.fresh (Nat.le_refl _)
 refine⟨.ref s1.heap.objs.size,upd H1 s1.heap.objs.size (.lst xs),I1.laid (t':=s1.toks) (fun b u e=>Heap.get?_push_of_some _ e) (Nat.le_refl _) ?_,rfl,q _ hf⟩
 exact⟨z,us,0,r,Heap.get?_push_size _ rfl⟩
end
noncomputable abbrev Sp:=List V->Hp->VK->XK->Prop
noncomputable abbrev CXT:=List Env->Hp->Shared->XK->Value->Shared->Prop
structure Env0 (P:Program)(w:World)(K:PySem.W.Frag)(mg:Str->Option Value)(base:Heap)(A:Around)(outer:List Env)(s:Shared)(H:Hp):Prop where
 frames:A.frames=some outer
 mod:Mod K mg base
 bs: ∀b o,base.get? b=some o->s.heap.get? b=some o/\H b=none
 bsz:base.objs.size<=s.heap.objs.size
 funs:s.heap.FunFrames base outer
 frf: ∀b∈frs outer,H b=none
 hok:HOk P w H s.heap
 bare:AllBare s.gens
noncomputable def CE(outer:List Env)(P:Program)(w:World)(H:Hp)(s:Shared)(Q:VK)(u:Value)(s':Shared):Prop:=
 ∃v H',s'.os=s.os/\AllBare s'.gens/\Un (frs outer) [] H H' s.heap s'.heap/\HOk P w H' s'.heap/\RelV v u/\Q v H'
noncomputable def CR(CX:CXT)(outer:List Env)(P:Program)(w:World)(H:Hp)(s:Shared)(Q:VK)(E:XK)(r:Result)(s':Shared):Prop:=
 match r with
 | .ok (.ret u)=>CE outer P w H s Q u s'
 | .ok _=>False
 | .error e=>CX outer H s E e s'
structure FnOk (P:Program)(w:World)(K:PySem.W.Frag)(mg:Str->Option Value)(base:Heap)(CX:CXT)(k:Nat)(f:Addr)(fd:FuncData)(ps:List Str)(sp:Sp):Prop where
 len: ∀vs H Q E,sp vs H Q E->vs.length=ps.length
 run: ∀(A:Around) (outer:List Env) (s:Shared) (H:Hp) (args:Args) (us:List Value) (vs:List V) (Q:VK) (E:XK),Room k A->Env0 P w K mg base A outer s H->BindsTo s fd args (ps.zip us)->Vals vs us->sp vs H Q E->
  codeAny (model P w) A (.call (.ref f) args) (CR CX outer P w H s Q E) s
theorem FnOk.mono{P:Program}{w:World}{K:PySem.W.Frag}{mg:Str->Option Value}{base:Heap}{CX:CXT}{j k:Nat}{f:Addr}{fd:FuncData}{ps:List Str}{sp:Sp}(F:FnOk P w K mg base CX j f fd ps sp)(h:j<=k):
  FnOk P w K mg base CX k f fd ps sp:=⟨F.len,fun A outer s H args us vs Q E hr=>F.run A outer s H args us vs Q E (hr.mono h)⟩
theorem FnOk.imp{P:Program}{w:World}{K:PySem.W.Frag}{mg:Str->Option Value}{base:Heap}{CX:CXT}{k:Nat}{f:Addr}{fd:FuncData}{ps:List Str}{sp sp':Sp}(F:FnOk P w K mg base CX k f fd ps sp)
  (h: ∀vs H Q E,sp' vs H Q E->sp vs H Q E):FnOk P w K mg base CX k f fd ps sp':=
 ⟨fun vs H Q E q=>F.len vs H Q E (h _ _ _ _ q),fun A outer s H args us vs Q E hr he hb hv hs=>F.run A outer s H args us vs Q E hr he hb hv (h _ _ _ _ hs)⟩
theorem Env0.in1{P:Program}{w:World}{K:PySem.W.Frag}{mg:Str->Option Value}{base:Heap}{A:Around}{outer:List Env}{s:Shared}{H:Hp}(e:Env0 P w K mg base A outer s H):
  Env0 P w K mg base A.in1 outer s H:=⟨e.frames,e.mod,e.bs,e.bsz,e.funs,e.frf,e.hok,e.bare⟩
section
variable {X:Cx} {pins:List (Addr×Obj)} {σ:St} {H:Hp} {s s':Shared}
theorem Inv.env0(I:Inv X pins σ H s):Env0 X.prog X.w X.K X.mg X.base X.A X.stack s H:=
 ⟨I.ok.frames,I.ok.mod,I.bs,Nat.le_trans I.ok.bsz I.sz,I.stack,I.stkFree,I.hok,I.bare⟩
theorem Inv.after{Q:VK}{u:Value}(I:Inv X pins σ H s)(h:CE X.stack X.prog X.w H s Q u s'):EP X pins σ Q u s':=by
 obtain⟨v,H',os,bare,un,hok,r,q⟩:=h
 obtain⟨hh,g,d,t,os'⟩:=s'
 obtain rfl:os'=s.os:=os
 exact⟨v,H',I.call (h':=hh) (g':=g) (d':=d) (t':=t) (ch:=[]) un hok bare (fun b z=>absurd z (by simp)),r,q⟩
end
noncomputable def zx3(sp:Sp)(dvs:List V)(E:XK)(t:TA):TE:=fun σ H Q=>t σ H fun vs H1=>sp (vs++dvs) H1 Q E
noncomputable def Binds(K:PySem.W.Frag)(fd:FuncData)(ps:List Str)(ds:List Value):Prop:=
 ∀(s:Shared) (us:List Value),K.In s.heap->(us++ds).length=ps.length->BindsTo s fd ⟨us,[]⟩ (ps.zip (us++ds))
theorem Binds.all{K:PySem.W.Frag}{fd:FuncData}{ps:List Str}(h: ∀us:List Value,us.length=ps.length->bindArgs fd ⟨us,[]⟩=pure (ps.zip us)):Binds K fd ps []:=fun s us _ hl=>by
 rw[List.append_nil] at hl⊢
 exact .of_eq (h us hl)
noncomputable def zmK(CX:CXT)(X:Cx)(E:XK):Prop:=∀(pins:List (Addr×Obj)) (σ:St) (H:Hp) (s:Shared) (e:Value) (s':Shared),Inv X pins σ H s->CX X.stack H s E e s'->X.xe e s'
section
variable {X:Cx} {CX:CXT} {k:Nat} {f C:Addr} {fd:FuncData} {ps:List Str} {sp:Sp} {dvs:List V} {ds:List Value} {E:XK} {x m:Str} {p pos apos:Pos} {e o:Expr} {es:List Expr} {ta:TE} {t:TA}
theorem ztr{pins:List (Addr×Obj)}{σ:St}{H:Hp}{s:Shared}{Q:VK}{us:List Value}{vs:List V}(F:FnOk X.prog X.w X.K X.mg X.base CX k f fd ps sp)(hr:Room k X.A)(hb:Binds X.K fd ps ds)(hd:Vals dvs ds)(hx:zmK CX X E)
  (I:Inv X pins σ H s) (r:Vals vs us) (h:sp (vs++dvs) H Q E):wpAny (model X.prog X.w) X.A (call (.ref f) us) (EP X pins σ Q) X.xe s:=by
 have r2:Vals (vs++dvs) (us++ds):=r.append hd
 have hl:(us++ds).length=ps.length:=by rw[<-r2.length];exact F.len _ _ _ _ h
 refine wpAny_call (codeAny_mono (F.run X.A X.stack s H ⟨us,[]⟩ (us++ds) (vs++dvs) Q E hr I.env0 (hb s us I.kIn hl) r2 h) fun r s' hq=>?_)
 cases r with
 |error e=>exact hx pins σ H s e s' I hq
 |ok fl=>
  cases fl with
  |ret u=>exact I.after hq
  |next=>exact False.elim hq
  |brk=>exact False.elim hq
  |cont=>exact False.elim hq
theorem zmL(F:FnOk X.prog X.w X.K X.mg X.base CX k f fd ps sp)(hr:Room k X.A)(hg:Gl X x)(hm:X.mg x=some (.ref f))(hk:PySem.W.keepIn X.K (.ref f)=true)(hb:Binds X.K fd ps ds)(hd:Vals dvs ds)(hx:zmK CX X E)
  (ha:PA X (e::es) t) (hdb:(x==("__debug__":Str))=false:=by decide) (he:starEach (e::es) X.env=(false,eval e X.env)::starEach es X.env:=by rfl) (hpl:(backTo pos (starEach es X.env)).any (·.1)=false:=by rfl):
  PE X (.Call (.Name x p) (e::es) [] pos) (zx3 sp dvs E t):=by
 intro pins s σ H Q I h
 refine wpAny_Call_Name_kw (zmz I hg hm ?_ hdb)
 refine PySem.W.callWith_K (h₀:=X.base) I.ok.mod.kin hk (thn (ha pos pins s σ H _ I h) fun us s1 ⟨vs,H1,I1,r,q⟩=>⟨I1.kIn,?_⟩) he hpl
 exact ztr F hr hb hd hx I1 r q
end
structure FnScope (N P:List Str)(sc:Scope):Prop where
 kind:sc.kind= .function
 co:sc.isCoroutine=false
 gen:sc.isGenerator=false
 nd:N.Nodup
 pre:N.take P.length=P
 par: ∀x∈P,sc.names.lookup x=some .local\/sc.names.lookup x=some .cell
 nofree: ∀y∈sc.names,y.2≠ .free
theorem ziv{kindOf:Str->Option NameKind}{x:Str}: ∀{binds:List (Str×Value)} {m:Str->Option Value},(∀v,(x,v)∉binds)->bindL kindOf binds m x=m x
 |[],_,_=>rfl
 |(n,v)::r,m,h=>by
  unfold bindL
  rw[ziv fun w hw=>h w (List.mem_cons_of_mem _ hw)]
  split
  ·have:x≠n:=by rintro rfl;exact h v List.mem_cons_self
   simp[this]
  ·rfl
theorem ziw{kindOf:Str->Option NameKind}{x:Str}: ∀{binds:List (Str×Value)} {m:Str->Option Value},(∀v,(x,v)∉binds)->bindC kindOf binds m x=m x
 |[],_,_=>rfl
 |(n,v)::r,m,h=>by
  unfold bindC
  rw[ziw fun w hw=>h w (List.mem_cons_of_mem _ hw)]
  split
  ·rfl
  ·have:x≠n:=by rintro rfl;exact h v List.mem_cons_self
   simp[this]
theorem zix{kindOf:Str->Option NameKind}{x:Str}{v:Value}: ∀{P:List Str} {vs:List Value} {i:Nat} {m:Str->Option Value},P.Nodup->P[i]? =some x->vs[i]? =some v->kindOf x=some .local->
  bindL kindOf (P.zip vs) m x=some v
 |[],_,_,_,_,h,_,_=>by simp at h
 |_::_,[],_,_,_,_,h,_=>by simp at h
 |p::P,w::vs,0,m,nd,h1,h2,hk=>by
  simp at h1 h2;subst h1;subst h2
  show bindL kindOf ((p,w)::P.zip vs) m p=_
  unfold bindL
  rw[ziv fun v hv=>(List.nodup_cons.mp nd).1 (List.of_mem_zip hv).1,if_pos hk]
  simp
 |p::P,w::vs,i+1,m,nd,h1,h2,hk=>by
  show bindL kindOf ((p,w)::P.zip vs) m x=_
  unfold bindL
  exact zix (i:=i) (List.nodup_cons.mp nd).2 (by simpa using h1) (by simpa using h2) hk
theorem ziy{kindOf:Str->Option NameKind}{x:Str}{v:Value}: ∀{P:List Str} {vs:List Value} {i:Nat} {m:Str->Option Value},P.Nodup->P[i]? =some x->vs[i]? =some v->kindOf x≠some .local->
  bindC kindOf (P.zip vs) m x=some v
 |[],_,_,_,_,h,_,_=>by simp at h
 |_::_,[],_,_,_,_,h,_=>by simp at h
 |p::P,w::vs,0,m,nd,h1,h2,hk=>by
  simp at h1 h2;subst h1;subst h2
  show bindC kindOf ((p,w)::P.zip vs) m p=_
  unfold bindC
  rw[ziw fun v hv=>(List.nodup_cons.mp nd).1 (List.of_mem_zip hv).1,if_neg hk]
  simp
 |p::P,w::vs,i+1,m,nd,h1,h2,hk=>by
  show bindC kindOf ((p,w)::P.zip vs) m x=_
  unfold bindC
  exact ziy (i:=i) (List.nodup_cons.mp nd).2 (by simpa using h1) (by simpa using h2) hk
noncomputable def zdW(N:List Str)(vs:List V):St:=vs.map some++List.replicate (N.length-vs.length) none
noncomputable def zcR(CX:CXT)(P:Program)(w:World)(K:PySem.W.Frag)(mg:Str->Option Value)(base:Heap)(N:List Str)(qual:Str)(scope:Scope)(f:Addr)(cd:Value)(A:Around)(outer:List Env)(s:Shared)(H:Hp)(E:XK):Cx where
 prog:=P
 w:=w
 K:=K
 mg:=mg
 base:=base
 A:=A.deeper (envOfC qual scope s.heap.objs.size f cd)
 N:=N
 s₀:=s
 H₀:=H
 env:=envOfC qual scope s.heap.objs.size f cd
 outer:=outer
 stack:=envOfC qual scope s.heap.objs.size f cd::outer
 ex:=[]
 calm:=true
 fn:=fun _=>true
 pn:=[]
 xe:=fun e s'=>wpAny (model P w) (A.deeper (envOfC qual scope s.heap.objs.size f cd)) (leaving (envOfC qual scope s.heap.objs.size f cd) e) (fun _ s''=>CX outer H s E e s'') (fun e' s''=>CX outer H s E e' s'') s'
theorem zkK{sc:Scope}{n:Nat}{x:Str}(h:sc.names.lookup x=some .cell): ∃c,(cellsFrom n sc.names []).lookup x=some c:=by
 have q:=PySem.W.cellsFrom_some sc.names n [] (.inl h)
 exact Option.isSome_iff_exists.mp q
theorem zmM{CX:CXT}{P:Program}{w:World}{K:PySem.W.Frag}{mg:Str->Option Value}{base:Heap}{N ps:List Str}{qual:Str}{scope:Scope}{f:Addr}{cd:Value}{A:Around}{outer:List Env}{s s1:Shared}{H:Hp}{E:XK}{us:List Value}{vs:List V}
  (S:FnScope N ps scope) (hd:A.handled=none) (e0:Env0 P w K mg base A outer s H) (hl:vs.length=ps.length) (r:Vals vs us)
  (x:InCallC s s.heap.objs.size (bindL (envOfC qual scope s.heap.objs.size f cd).kindOf (ps.zip us) fun _=>none) (cellsFrom (s.heap.objs.size+1) scope.names []) (bindC (envOfC qual scope s.heap.objs.size f cd).kindOf (ps.zip us) fun _=>none) s1):
  Inv (zcR CX P w K mg base N qual scope f cd A outer s H E) [] (zdW N vs) H s1:=by
 have hpl:ps.length<=N.length:=by have:=congrArg List.length S.pre;rw[List.length_take] at this;omega
 obtain⟨h1,tk,rfl,hk⟩:=x.done
 have noA: ∀b:Addr,b∉(zcR CX P w K mg base N qual scope f cd A outer s H E).ex:=fun b z=>absurd (show b∈([]:List Addr) from z) (by simp)
 refine⟨⟨e0.mod,S.kind,rfl,rfl,Nat.le_refl _,fun y z c h1 h2=>?_,fun y hy=>?_,fun y c _ h=>?_,fun _=>hd,Around.frames_deeper e0.frames,.inr ⟨rfl,rfl⟩,fun b z=>absurd z (noA b),e0.bs,e0.bsz,fun b _ _=>noA b,fun b z=>absurd z (noA b),e0.funs,e0.frf⟩,
  rfl,e0.bare,Un.kept hk,⟨_,x.toInCall.ns,fun i y v h1 h2 h3=>?_⟩,fun y c h=>⟨_,x.cell y c h⟩,e0.hok.fresh (Nat.le_refl _),fun y c h=>?_,fun p hp=>absurd (show p∈([]:List (Addr×Obj)) from hp) (by simp),e0.hok.kept hk,?_⟩
 ·exact name_of_addr x.apart (PySem.mem_of_lookup h1) (PySem.mem_of_lookup h2)
 ·have hy:scope.names.lookup y=some .cell\/scope.names.lookup y=some .free:=hy
  rcases hy with hy|hy
  ·exact zkK hy
  ·exact absurd rfl (S.nofree _ (PySem.mem_of_lookup hy))
 ·exact Nat.le_of_lt (x.above y c (PySem.mem_of_lookup h))
 ·have hi:i<vs.length:=by
   unfold zdW at h2
   by_cases hi:i<vs.length
   ·exact hi
   ·rw[List.getElem?_append_right (by simpa using hi)] at h2
    rw[List.getElem?_replicate] at h2
    split at h2<;>cases h2
  have ha:vs[i]? =some v:=by
   unfold zdW at h2
   rw[List.getElem?_append_left (by simpa using hi),List.getElem?_map] at h2
   cases e:vs[i]? with
   |none=>rw[e] at h2;cases h2
   |some a=>rw[e] at h2;cases h2;rfl
  obtain⟨u,hu,rv⟩:=r.get ha
  have hp:ps[i]? =some y:=by
   rw[<-S.pre,List.getElem?_take_of_lt (by omega)];exact h1
  have ndP:ps.Nodup:=by rw[<-S.pre];exact S.nd.sublist (List.take_sublist _ _)
  refine⟨u,rv,?_⟩
  rcases S.par y (List.mem_of_getElem? hp) with k|k
  ·exact .inl ⟨k,zix ndP hp hu k⟩
  ·obtain⟨c,e⟩:=zkK (n:=s.heap.objs.size+1) k
   refine .inr ⟨.inl k,c,e,?_⟩
   have q:=x.cell y c e
   rw[ziy ndP hp hu (by show scope.names.lookup y≠_;rw[k];decide)] at q
   exact q
 ·exact e0.hok.fresh (Nat.le_of_lt (x.above y c (PySem.mem_of_lookup h)))
 ·unfold zdW
  show _=N.length
  rw[List.length_append,List.length_map,List.length_replicate]
  omega
theorem zx4{CX:CXT}{P:Program}{w:World}{K:PySem.W.Frag}{mg:Str->Option Value}{base:Heap}{k:Nat}{f:Addr}{name qual:Str}{params:Arguments}{body:List Stmt}{scope:Scope}{dV kV doc pm cdv ct oc:Value}{an od:Option Addr}
  {osl:Array (Option Value)} {N ps:List Str} {sp:Sp} (lk:K.lookup f=some ⟨oc,od,.func (PySem.W.fnOf name qual params body scope dV kV doc pm an cdv ct),osl⟩) (hcd:PySem.W.codeIn K cdv qual=true) (S:FnScope N ps scope)
  (len: ∀vs H Q E,sp vs H Q E->vs.length=ps.length)
  (hbody: ∀(A:Around) (outer:List Env) (s:Shared) (H:Hp) (vs:List V) (Q:VK) (E:XK),Room k (A.deeper (envOfC qual scope s.heap.objs.size f cdv))->sp vs H Q E->
   ∃t,PSs (zcR CX P w K mg base N qual scope f cdv A outer s H E) body t/\t { nx:=fun _ H'=>Q .non H',rt:=Q } (zdW N vs) H):
  FnOk P w K mg base CX (k+1) f (PySem.W.fnOf name qual params body scope dV kV doc pm an cdv ct) ps sp:=by
 refine⟨len,fun A outer s H args us vs Q E hr e0 hb r hsp=>?_⟩
 have hl:=len _ _ _ _ hsp
 have KX:K.In s.heap:=e0.mod.kin.keeps fun b o e=>(e0.bs b o e).1
 have lim:s.heap.NoLimit:=e0.mod.nolimit.keeps fun b o e=>(e0.bs b o e).1
 have hkind: ∀y∈ps.zip us,scope.names.lookup y.1=some .local\/(scope.names.lookup y.1=some .cell/\((cellsFrom (s.heap.objs.size+1) scope.names []).lookup y.1).isSome=true):=fun ⟨n,v⟩ hy=>by
  rcases S.par n (List.of_mem_zip hy).1 with q|q
  ·exact .inl q
  ·exact .inr ⟨q,PySem.W.cellsFrom_some _ _ _ (.inl q)⟩
 refine codeAny_call_function hr.depth (KX _ _ lk) rfl S.co S.gen rfl (PySem.W.codeRec_of KX hcd) (hb _ _ _ _ ?_)
 refine wpAny_newFunctionEnv_cells S.kind hkind fun env he s1 x=>?_
 subst he
 refine⟨lim.keeps x.toInCall.keep,codeAny_func ?_⟩
 obtain⟨t,ht,hq⟩:=hbody A outer s H vs Q E (hr.deeper _) hsp
 have I:Inv (zcR CX P w K mg base N qual scope f cdv A outer s H E) [] (zdW N vs) H s1:=zmM S hr.hd e0 hl r x
 refine wpAny_mono (ht [] s1 (zdW N vs) H _ I hq) (fun fl s' hs=>?_) fun e s' hs=>hs
 have fin: ∀{σ':St} {H':Hp} {v:V} {u:Value},Inv (zcR CX P w K mg base N qual scope f cdv A outer s H E) [] σ' H' s'->RelV v u->Q v H'->CE outer P w H s Q u s':=
  fun {σ' H' v u} J rv q=>⟨v,H',J.os,J.bare,J.base,J.hok,rv,q⟩
 cases fl with
 |ret u=>
  obtain⟨v,σ',H',J,rv,q⟩:=hs
  exact fin J rv q
 |next=>
  obtain⟨σ',H',J,q⟩:=hs
  exact fin (v:=V.non) (u:=Value.none) J rfl q
 |brk=>
  obtain⟨_,_,_,q⟩:=hs
  exact False.elim q
 |cont=>
  obtain⟨_,_,_,q⟩:=hs
  exact False.elim q
end L2
namespace L2
open PySem PySem.Spec PyProof.Rows
section
variable {X:Cx} {x:Str} {p pos:Pos} {e:Expr} {es:List Expr} {t:TA} {id T:String} {r:List V->Hp->VK->Prop}
noncomputable def tCB(r:List V->Hp->VK->Prop)(t:TA):TE:=fun σ H Q=>t σ H fun vs H1=>r vs H1 Q
theorem zhg(hc:CallR X (.builtin id) r)(hg:Gl X x)(hm:X.mg x=none)(hv:bootBuiltins x=some (.builtin id))(ha:PA X (e::es) t)(hn:x≠"__name__":=by decide)(hdb:(x==("__debug__":Str))=false:=by decide)
  (he:starEach (e::es) X.env=(false,eval e X.env)::starEach es X.env:=by rfl) (hpl:(backTo pos (starEach es X.env)).any (·.1)=false:=by rfl):PE X (.Call (.Name x p) (e::es) [] pos) (tCB r t):=by
 intro pins s σ H Q I h
 refine wpAny_Call_Name_kw (zit I hg hm hv ?_ hn hdb)
 exact PyProof.Rows.callWith_builtin1 (thn (ha pos pins s σ H _ I h) fun us s1 ⟨vs,H1,I1,r1,q1⟩=>hc pins s1 σ H1 vs us Q I1 r1 q1) he hpl
theorem ziz(hc:CallR X (.type T) r)(hg:Gl X x)(hm:X.mg x=none)(hv:bootBuiltins x=some (.type T))(ha:PA X (e::es) t)(hn:x≠"__name__":=by decide)(hdb:(x==("__debug__":Str))=false:=by decide)
  (he:starEach (e::es) X.env=(false,eval e X.env)::starEach es X.env:=by rfl) (hpl:(backTo pos (starEach es X.env)).any (·.1)=false:=by rfl):PE X (.Call (.Name x p) (e::es) [] pos) (tCB r t):=by
 intro pins s σ H Q I h
 refine wpAny_Call_Name_kw (zit I hg hm hv ?_ hn hdb)
 exact PyProof.Rows.callWith_type1 (thn (ha pos pins s σ H _ I h) fun us s1 ⟨vs,H1,I1,r1,q1⟩=>hc pins s1 σ H1 vs us Q I1 r1 q1) he hpl
end
end L2
namespace HT
open PySem PyProof.Rows
noncomputable def lexLt:List Int->List Int->Bool
 |[],[]=>false
 |[],_::_=>true
 |_::_,[]=>false
 |x::xs,y::ys=>if x=y then lexLt xs ys else decide (x<y)
theorem lexLt_cons(x y:Int)(xs ys:List Int):lexLt (x::xs) (y::ys)=if x=y then lexLt xs ys else decide (x<y):=rfl
theorem zdX:lexLt [] []=false:=rfl
theorem zds(y:Int)(ys:List Int):lexLt [] (y::ys)=true:=rfl
theorem zdt(x:Int)(xs:List Int):lexLt (x::xs) []=false:=rfl
theorem zkL(A:Around)(s:Shared)(a:Int)(t:Tok)(c:Int)(u:Tok): ∃e,SeqAt.EqAt A s (.int a t) (.int c u) e/\(e=true↔a=c):=
 ⟨(a==c),SeqAt.EqAt.int_int a t c u,by simp⟩
theorem zo8(A:Around)(s:Shared)(a:Int)(t:Tok)(c:Int)(u:Tok)(prog:Program)(w:World)(E:Value->Shared->Prop)(Q:Value->Shared->Prop)(h:Q (.bool (decide (a<c))) s):
  wpAny (model prog w) A (richCompare .Lt (.int a t) (.int c u)) Q E s:=
 (PyProof.Rows.lt_int h:wpAny (model prog w) A (compareOp .Lt (.int a t) (.int c u)) Q E s)
section
open PySem.SeqAt
open PySem.AutoSeq1 (wpAny_loadPart')
open PySem.MeetsSeq PySem.MeetsSeq2 PySem.MeetsSeq3
theorem zhh(l b:Addr)(items items2:Array Value)(n n2:Nat)(dd dd2:Option Addr)(sl sl2:Array (Option Value))(ns ms:List Int)(hi:IntsAre items.toList ns)(hj:IntsAre items2.toList ms):
  Meets (Builtin.«tuple.__lt__» ⟨[.ref l,.ref b],[]⟩)
   (fun _ R s=>s.heap.get? l=some { cls:=.type "tuple",dict:=dd,data:=.seq items n,slots:=sl }/\s.heap.get? b=some { cls:=.type "tuple",dict:=dd2,data:=.seq items2 n2,slots:=sl2 }/\
    R (.ok (.ret (.bool (lexLt ns ms)))) s):=
 .of_wp fun prog w A R s h=>by
  obtain⟨hp,g,d,tk,os⟩:=s;obtain⟨hl,hb,h⟩:=h
  have f2:=AutoSeq1.sub_tuple_tuple
  have z1:items.size=ns.length:=by rw[<-hi.length];simp
  have z2:items2.size=ms.length:=by rw[<-hj.length];simp
  wp_walk using wpAny_loadPart' hl,wpAny_loadPart' hb,wpAny_forIn_list _ (fun zch b s'=>b.1=none/\s'=⟨hp,g,d,tk,os⟩/\∃(vs ws:List Value) (ns' ms':List Int),zch=vs.zip ws/\
   IntsAre vs ns'/\IntsAre ws ms'/\ns'.length+items2.size=ms'.length+items.size/\R (.ok (.ret (.bool (lexLt ns' ms')))) ⟨hp,g,d,tk,os⟩) _
  case turn=>
   rintro⟨y,x⟩ zch b s' ⟨hb',rfl,vs,ws,ns',ms',hz,hvi,hwi,hlen,hR⟩
   cases hvi with
   |nil=>rw[List.zip_nil_left] at hz;cases hz
   |cons a t hvi'=>
    cases hwi with
    |nil=>rw[List.zip_nil_right] at hz;cases hz
    |cons c u hwi'=>
     rw[List.zip_cons_cons] at hz
     injection hz with hyx hrest
     injection hyx with hy hx
     subst hy hx
     rw[lexLt_cons] at hR
     simp only[List.length_cons] at hlen
     obtain⟨e,he,hiff⟩:=zkL A.in1 ⟨hp,g,d,tk,os⟩ a t c u
     refine wpAny_bind (he prog w _ _ ?_)
     cases e with
     |true=>
      rw[if_pos (hiff.mp rfl)] at hR
      wp_walk
      exact⟨rfl,rfl,_,_,_,_,hrest,hvi',hwi',by omega,hR⟩
     |false=>
      rw[if_neg (fun q=>absurd (hiff.mpr q) Bool.false_ne_true)] at hR
      have hri:=zo8 A.in1 ⟨hp,g,d,tk,os⟩ a t c u prog w
      wp_walk using hri
      exact⟨_,rfl,by simpa using hR⟩
  case fin=>
   rintro⟨b1,b2⟩ s' ⟨hb',rfl,vs,ws,ns',ms',hz,hvi,hwi,hlen,hR⟩
   simp only at hb'
   subst hb'
   have hv:lexLt ns' ms'=decide (items.size<items2.size):=by
    cases hvi with
    |nil=>
     cases hwi with
     |nil=>
      simp only[List.length_nil] at hlen
      rw[zdX]
      exact (decide_eq_false (by omega)).symm
     |cons c u hw=>
      simp only[List.length_nil,List.length_cons] at hlen
      rw[zds]
      exact (decide_eq_true (by omega)).symm
    |cons a t hv=>
     cases hwi with
     |nil=>
      simp only[List.length_nil,List.length_cons] at hlen
      rw[zdt]
      exact (decide_eq_false (by omega)).symm
     |cons c u hw=>
      rw[List.zip_cons_cons] at hz
      cases hz
   rw[hv] at hR
   wp_walk
   exact⟨_,rfl,by simpa [Builtin.Tuple.tupleCompareSizes] using hR⟩
  case h=>
   exact⟨rfl,rfl,items.toList,items2.toList,ns,ms,rfl,hi,hj,by omega,h⟩
end
section
variable {prog:Program} {w:World} {A:Around} {E:Value->Shared->Prop} {s:Shared}
theorem lt_tupInts{l b:Addr}{items items2:Array Value}{ns ms:List Int}{Q:Value->Shared->Prop}(hl:IsTup s.heap l items)(hb:IsTup s.heap b items2)(hi:IntsAre items.toList ns)(hj:IntsAre items2.toList ms)
  (hu:A.units<cLine) (h:Q (.bool (lexLt ns ms)) s):wpAny (model prog w) A (compareOp .Lt (.ref l) (.ref b)) Q E s:=by
 obtain⟨⟨cls,dd,data,sl⟩,ho,hc,n,hd⟩:=id hl
 obtain⟨⟨cls2,dd2,data2,sl2⟩,ho2,hc2,n2,hd2⟩:=id hb
 simp only at hc hd hc2 hd2
 subst hc hd hc2 hd2
 exact richCompare_meets_room (op:=.Lt) ⟨_,ho,rfl⟩ ⟨_,ho2,rfl⟩ PySem.F.slot_tuple_lt PySem.F.entry_tuple_lt (PySem.F.args_tuple_lt_2 _ _) (zhh l b items items2 n n2 dd dd2 sl sl2 ns ms hi hj)
  ⟨ho,ho2,show Value.bool (lexLt ns ms)≠Value.notImplemented/\Q (.bool (lexLt ns ms)) s from ⟨(fun x=>nomatch x),h⟩⟩ hu
noncomputable def sIx(n d:Nat):Option Int->Nat
 |none=>d
 |some v=>if v<0 then (v+(n:Int)).toNat else min v.toNat n
theorem sIx_none(n d:Nat):sIx n d none=d:=rfl
theorem sIx_nat(n d k:Nat):sIx n d (some (k:Int))=min k n:=by
 show (if (k:Int)<0 then ((k:Int)+(n:Int)).toNat else min (k:Int).toNat n)=min k n
 rw[if_neg (by omega),Int.toNat_natCast]
end
end HT
namespace L2
open PySem PySem.Spec PyProof.Rows
noncomputable abbrev TO:=St->Hp->(Option Int->Hp->Prop)->Prop
noncomputable def PO(X:Cx)(e:Option Expr)(t:TO):Prop:=
 ∀(pins:List (Addr×Obj)) (s:Shared) (σ:St) (H:Hp) (Q:Option Int->Hp->Prop),Inv X pins σ H s->t σ H Q->
  wpAny (model X.prog X.w) X.A (evalPart e X.env) (fun u s'=>∃o H',Inv X pins σ H' s'/\IsPart u o/\Q o H') X.xe s
noncomputable def zrn:TO:=fun _ H Q=>Q none H
noncomputable def zx5(t:TE):TO:=fun σ H Q=>t σ H fun x H1=>∃i,x= .int i/\Q (some i) H1
theorem zbI{ns:List Int}: ∀{us:List Value},Vals (ns.map V.int) us->IntsAre us ns:=by
 induction ns with
 |nil=>intro us r;rw[List.map_nil] at r;cases r;exact .nil
 |cons n ns ih=>
  intro us r
  rw[List.map_cons] at r
  cases r with
  |cons r1 r2=>
   obtain⟨t,e⟩:=r1
   subst e
   exact .cons n t (ih r2)
section
variable {X:Cx} {e:Expr} {te:TE} {lo hi:Option Expr} {tl th:TO} {pos p2:Pos}
theorem zro:PO X none zrn:=by
 intro pins s σ H Q I h
 rw[evalPart_none]
 exact wpAny_pure ⟨none,H,I,.none,h⟩
theorem zrp(h:PE X e te):PO X (some e) (zx5 te):=by
 intro pins s σ H Q I hw
 rw[evalPart_some]
 refine thn (h pins s σ H _ I hw) fun u s1 ⟨x,H1,I1,r1,q1⟩=>?_
 obtain⟨i,rfl,q⟩:=q1
 obtain⟨t,rfl⟩:=r1
 exact⟨some i,H1,I1,.int i t,q⟩
noncomputable def SlR(X:Cx)(r:V->Option Int->Option Int->Hp->VK->Prop):Prop:=
 ∀(pins:List (Addr×Obj)) (s:Shared) (σ:St) (H:Hp) (x:V) (v vl vu:Value) (lo hi:Option Int) (sl:Addr) (Q:VK),Inv X pins σ H s->RelV x v->s.heap.IsSliceOf sl vl vu .none->IsPart vl lo->IsPart vu hi->r x lo hi H Q->
  ∃T id,typeLookup (.type T) "__getitem__"=pure (some (.builtin id))/\s.TypeIs v T/\wpAny (model X.prog X.w) X.A (getItem v (.ref sl)) (EP X pins σ Q) X.xe s
theorem SlR.or{r r':V->Option Int->Option Int->Hp->VK->Prop}(h:SlR X r)(h':SlR X r'):SlR X (fun x lo hi H Q=>r x lo hi H Q\/r' x lo hi H Q):=by
 intro pins s σ H x v vl vu lo hi sl Q I rx hs pl pu q
 rcases q with q|q
 ·exact h pins s σ H x v vl vu lo hi sl Q I rx hs pl pu q
 ·exact h' pins s σ H x v vl vu lo hi sl Q I rx hs pl pu q
noncomputable def tSl(r:V->Option Int->Option Int->Hp->VK->Prop)(te:TE)(tl th:TO):TE:=fun σ H Q=>te σ H fun x H1=>tl σ H1 fun l H2=>th σ H2 fun u H3=>r x l u H3 Q
theorem zo9{r:V->Option Int->Option Int->Hp->VK->Prop}(hr:SlR X r)(he:PE X e te)(hl:PO X lo tl)(hu:PO X hi th):PE X (.Subscript e (.Slice lo hi none p2) pos) (tSl r te tl th):=by
 intro pins s σ H Q I h
 refine Subscript_ (thn (he pins s σ H _ I h) fun v s1 ⟨x,H1,I1,r1,q1⟩=>?_)
 refine wpAny_Slice (thn (hl pins s1 σ H1 _ I1 q1) fun vl s2 ⟨l,H2,I2,pl,q2⟩=>thn (hu pins s2 σ H2 _ I2 q2) fun vu s3 ⟨u,H3,I3,pu,q3⟩=>?_)
 rw[evalPart_none]
 refine wpAny_pure ?_
 have I4:Inv X pins σ H3 { s3 with heap:=s3.heap.push { cls:=.type "slice",data:=.fields #[vl,vu,.none] } }:=I3.kept (t':=s3.toks) fun b ob q=>Heap.get?_push_of_some _ q
 obtain⟨T,id,hT,ht,hg⟩:=hr pins { s3 with heap:=s3.heap.push { cls:=.type "slice",data:=.fields #[vl,vu,.none] } } σ H3 x v vl vu l u s3.heap.objs.size Q I4 r1 (Heap.IsSliceOf.new ..) pl pu q3
 show wpAny (model X.prog X.w) X.A (subscriptTail e (.Slice lo hi none p2) v (.ref s3.heap.objs.size)) (EP X pins σ Q) X.xe { s3 with heap:=s3.heap.push { cls:=.type "slice",data:=.fields #[vl,vu,.none] } }
 exact tail_any (ops:=[.ref s3.heap.objs.size,v]) ht hT hg (by with_unfolding_all rfl)
noncomputable def zsL(xs:List V)(lo hi:Option Int):List V:=(xs.drop (HT.sIx xs.length 0 lo)).take (HT.sIx xs.length xs.length hi-HT.sIx xs.length 0 lo)
theorem zj2(xs:List V)(lo hi:Option Int):(zsL xs lo hi).length<=xs.length:=by
 unfold zsL
 rw[List.length_take,List.length_drop]
 omega
noncomputable def zAH(K:PySem.W.Frag):R2:=fun x y H Q=>∃a b ns ms,x= .ref a/\y= .ref b/\SqT K H a (ns.map V.int)/\SqT K H b (ms.map V.int)/\Q (.bl (HT.lexLt ns ms)) H
theorem zts(hu:X.A.units<cLine):OpR X (compareOp .Lt) (zAH X.K):=by
 intro pins s σ H x y v u Q I rx ry h
 obtain⟨a,b,ns,ms,rfl,rfl,ha,hb,q⟩:=h
 cases rx
 cases ry
 obtain⟨its,r1,p1,_⟩:=I.tuple ha
 obtain⟨its2,r2,p2,_⟩:=I.tuple hb
 have i1:IntsAre its.toArray.toList ns:=zbI r1
 have i2:IntsAre its2.toArray.toList ms:=zbI r2
 exact HT.lt_tupInts p1 p2 i1 i2 hu ⟨.bl (HT.lexLt ns ms),H,I,rfl,q⟩
end
end L2
namespace L2
open PySem PySem.Spec PyProof.Rows
noncomputable def ixN(n:Nat)(i:Int):Option Nat:=if 0<=i then (if i<n then some i.toNat else none) else if -(n:Int)<=i then some (i+n).toNat else none
noncomputable def atI{α:Type}(xs:List α)(i:Int):Option α:=(ixN xs.length i).bind fun j=>xs[j]?
theorem zrq{n:Nat}{i:Int}{j:Nat}(h:ixN n i=some j):seqIndex? i n=some j/\j<n/\ -(n:Int)<=i/\i<n:=by
 unfold ixN at h
 by_cases h0:0<=i
 ·rw[if_pos h0] at h
  by_cases h1:i<n
  ·rw[if_pos h1] at h
   have e:i.toNat=j:=Option.some.inj h
   exact⟨by rw[seqIndex_of h0 h1,e],by omega,by omega,h1⟩
  ·rw[if_neg h1] at h;cases h
 ·rw[if_neg h0] at h
  by_cases h1: -(n:Int)<=i
  ·rw[if_pos h1] at h
   have e:(i+n).toNat=j:=Option.some.inj h
   exact⟨by rw[seqIndex_neg (by omega) h1,e],by omega,h1,by omega⟩
  ·rw[if_neg h1] at h;cases h
theorem zmN{α:Type}{xs:List α}{i:Int}{v:α}(h:atI xs i=some v): ∃j,seqIndex? i xs.length=some j/\xs[j]? =some v/\j<xs.length/\ -(xs.length:Int)<=i/\i<xs.length:=by
 unfold atI at h
 cases e:ixN xs.length i with
 |none=>rw[e] at h;cases h
 |some j=>
  rw[e] at h
  obtain⟨h1,h2,h3,h4⟩:=zrq e
  exact⟨j,h1,h,h2,h3,h4⟩
theorem atI_nat{α:Type}{xs:List α}{j:Nat}{v:α}(h:xs[j]? =some v):atI xs (j:Int)=some v:=by
 have hj:j<xs.length:=(List.getElem?_eq_some_iff.mp h).1
 have e:ixN xs.length (j:Int)=some j:=by
  unfold ixN
  rw[if_pos (by omega),if_pos (by omega)];simp
 unfold atI;rw[e];exact h
noncomputable def zmO(b:Expr):Prop:=∀o i,subscripted b false o i=operate [o,i] (getItem o i)
noncomputable def IxR(X:Cx)(r:R2):Prop:=
 ∀(value slice:Expr) (pins:List (Addr×Obj)) (s:Shared) (σ:St) (H:Hp) (x y:V) (v u:Value) (Q:VK),Inv X pins σ H s->RelV x v->RelV y u->r x y H Q->
  subscripted slice false v u=operate [v,u] (getItem v u)->wpAny (model X.prog X.w) X.A (subscriptTail value slice v u) (EP X pins σ Q) X.xe s
noncomputable def MtR(X:Cx)(id:String)(r:V->List V->Hp->VK->Prop):Prop:=
 ∀(pins:List (Addr×Obj)) (s:Shared) (σ:St) (H:Hp) (x:V) (xs:List V) (v:Value) (us:List Value) (Q:VK),Inv X pins σ H s->RelV x v->Vals xs us->r x xs H Q->
  wpAny (model X.prog X.w) X.A (call (.builtin id) (v::us)) (EP X pins σ Q) X.xe s
section
variable {X:Cx} {a b:Expr} {ta tb:TE} {pos:Pos}
theorem IxR.or{r r':R2}(h:IxR X r)(h':IxR X r'):IxR X (fun x y H Q=>r x y H Q\/r' x y H Q):=by
 intro value slice pins s σ H x y v u Q I rx ry q hs
 rcases q with q|q
 ·exact h value slice pins s σ H x y v u Q I rx ry q hs
 ·exact h' value slice pins s σ H x y v u Q I rx ry q hs
theorem MtR.or{id:String}{r r':V->List V->Hp->VK->Prop}(h:MtR X id r)(h':MtR X id r'):MtR X id (fun x xs H Q=>r x xs H Q\/r' x xs H Q):=by
 intro pins s σ H x xs v us Q I rx rs q
 rcases q with q|q
 ·exact h pins s σ H x xs v us Q I rx rs q
 ·exact h' pins s σ H x xs v us Q I rx rs q
theorem zx6{r:R2}(hr:IxR X r)(ha:PE X a ta)(hb:PE X b tb)(hs:zmO b):PE X (.Subscript a b pos) (tOp r ta tb):=by
 intro pins s σ H Q I h
 exact Subscript_ (zxT ha hb I h fun v u s2 x y H2 I2 rx ry q=>hr a b pins s2 σ H2 x y v u Q I2 rx ry q (hs _ _))
noncomputable def zAI(K:PySem.W.Frag):R2:=fun x y H Q=>∃p xs i v,x= .ref p/\y= .int i/\SqL K H p xs/\atI xs i=some v/\Q v H
noncomputable def zAJ(K:PySem.W.Frag):R2:=fun x y H Q=>∃p xs i v,x= .ref p/\y= .int i/\SqT K H p xs/\atI xs i=some v/\Q v H
theorem zrr:IxR X (zAI X.K):=by
 intro value slice pins s σ H x y v u Q I rx ry h hs
 obtain⟨p,xs,i,z,rfl,rfl,hq,he,q⟩:=h
 cases rx
 obtain⟨t,rfl⟩:=ry
 obtain⟨its,r,pl,hz⟩:=I.list hq
 obtain⟨j,h1,h2,h3,h4,h5⟩:=zmN he
 obtain⟨w,ew,rw'⟩:=r.get h2
 have hl:=r.length
 have hn:=zkI
 have fin:EP X pins σ Q w s:=⟨z,H,I,rw',q⟩
 by_cases h0:0<=i
 ·have hj:i.toNat=j:=by
   rw[seqIndex_of h0 h5] at h1
   exact Option.some.inj h1
  exact item_listR pl.isList h0 (by omega) (by rw[hj];simpa using ew) fin hs
 ·have hj:(i+(its.toArray.size:Int)).toNat=j:=by
   rw[seqIndex_neg (by omega) h4] at h1
   rw[List.size_toArray,<-hl]
   exact Option.some.inj h1
  exact subscriptTail_builtinR (x:=w) pl.isList.typeIs slot_list_getitem.lookup
   (wpAny_getItem_list_neg (Q:=fun r s'=>r=w/\EP X pins σ Q r s') pl.isList (by omega) (by rw[List.size_toArray]<;>omega) (by omega) (by rw[hj];simpa using ew) ⟨rfl,fin⟩) hs
theorem ztt:IxR X (zAJ X.K):=by
 intro value slice pins s σ H x y v u Q I rx ry h hs
 obtain⟨p,xs,i,z,rfl,rfl,hq,he,q⟩:=h
 cases rx
 obtain⟨t,rfl⟩:=ry
 obtain⟨its,r,pl,hz⟩:=I.tuple hq
 obtain⟨j,h1,h2,h3,h4,h5⟩:=zmN he
 obtain⟨w,ew,rw'⟩:=r.get h2
 have hl:=r.length
 have hn:=zkI
 have fin:EP X pins σ Q w s:=⟨z,H,I,rw',q⟩
 exact subscriptTail_builtinR (x:=w) pl.typeIs slot_tuple_getitem.lookup
  (getItem_tuple (j:=j) (Q:=fun r s'=>r=w/\EP X pins σ Q r s') pl (by omega) (by omega) (by rw[List.size_toArray,<-hl];exact h1) (by simpa using ew) ⟨rfl,fin⟩) hs
theorem Inv.lst{pins:List (Addr×Obj)}{σ:St}{H:Hp}{s:Shared}{p:Addr}{xs:List V}(I:Inv X pins σ H s)(h:H p=some (.lst xs)):
  ∃(its:List Value) (n:Nat),Vals xs its/\s.heap.get? p=some { cls:=.type "list",data:=.seq its.toArray n }/\xs.length<=sizeLine:=by
 obtain⟨z,its,n,r,e⟩:=I.hok p _ h
 exact⟨its,n,r,e,z⟩
theorem ziA(lo hi:Option Int)(n:Nat):(sliceBounds lo hi none n).1=((HT.sIx n 0 lo:Nat):Int)/\(sliceBounds lo hi none n).2.1=((HT.sIx n n hi:Nat):Int)/\(sliceBounds lo hi none n).2.2=1:=by
 refine⟨?_,?_,rfl⟩
 ·cases lo with
  |none=>simp[sliceBounds,HT.sIx]
  |some i=>
   simp only[sliceBounds,HT.sIx,Option.getD_none,show (1:Int)>0 by decide,if_true]
   by_cases h:i<0
   ·simp only[h,if_true]<;>omega
   ·simp only[h,if_false]<;>omega
 ·cases hi with
  |none=>simp[sliceBounds,HT.sIx]
  |some i=>
   simp only[sliceBounds,HT.sIx,Option.getD_none,show (1:Int)>0 by decide,if_true]
   by_cases h:i<0
   ·simp only[h,if_true]<;>omega
   ·simp only[h,if_false]<;>omega
theorem zhi(its:List Value)(lo hi:Option Int):slicePick its.toArray lo hi none=((its.drop (HT.sIx its.length 0 lo)).take (HT.sIx its.length its.length hi-HT.sIx its.length 0 lo)).toArray:=by
 obtain⟨h1,h2,h3⟩:=ziA lo hi its.toArray.size
 unfold slicePick
 rw[h1,h2,h3]
 simp only[sliceRange_one,pick_run,List.size_toArray]<;>rfl
noncomputable def zAK(K:PySem.W.Frag):V->Option Int->Option Int->Hp->VK->Prop:=fun x lo hi H Q=>∃a xs,x= .ref a/\SqL K H a xs/\∀p,H p=none->Q (.ref p) (upd H p (.lst (zsL xs lo hi)))
theorem zrs:SlR X (zAK X.K):=by
 intro pins s σ H x v vl vu lo hi sl Q I rx hs pl pu h
 obtain⟨a,xs,rfl,hx,q⟩:=h
 cases rx
 obtain⟨its,r,ht,hz⟩:=I.list hx
 have hlen:=r.length
 refine⟨"list",_,slot_list_getitem.lookup,ht.isList.typeIs,?_⟩
 refine wpAny_getItem_list_slice ht.isList hs pl pu .none (by simp) ?_ (by rw[List.size_toArray]<;>omega)
 rw[zhi,<-hlen]
 refine⟨.ref s.heap.objs.size,_,I.laid (t':=s.toks) (o:=.lst (zsL xs lo hi)) (fun b ob q=>Heap.get?_push_of_some _ q) (Nat.le_refl _) ?_,rfl,q _ (I.hok.fresh (Nat.le_refl _))⟩
 exact⟨Nat.le_trans (zj2 xs lo hi) hz,_,0,(r.drop (HT.sIx xs.length 0 lo)).take (HT.sIx xs.length xs.length hi-HT.sIx xs.length 0 lo),Heap.get?_push_size _ rfl⟩
theorem zeP:CallR X (.builtin "len") (fun xs H Q=>∃p ys,xs=[.ref p]/\(SqL X.K H p ys\/SqT X.K H p ys)/\Q (.int ys.length) H):=by
 intro pins s σ H xs us Q I r h
 obtain⟨p,ys,rfl,hq,q⟩:=h
 obtain⟨u,rfl,rx⟩:=zhf r
 cases rx
 have hn:=zkI
 rcases hq with hq|hq
 ·obtain⟨its,r',pl,hz⟩:=I.list hq
  have hlen:=r'.length
  exact Calls.call_len_list pl.isList (by simp only[List.size_toArray]<;>omega) ⟨.int ys.length,H,I.tok _,⟨s.toks+1,by rw[List.size_toArray,hlen]⟩,q⟩
 ·obtain⟨its,r',pl,hz⟩:=I.tuple hq
  have hlen:=r'.length
  exact len_tuple pl (by simp only[List.size_toArray]<;>omega) ⟨.int ys.length,H,I.tok _,⟨s.toks+1,by rw[List.size_toArray,hlen]⟩,q⟩
theorem CallR.or{f:Value}{r r':List V->Hp->VK->Prop}(h:CallR X f r)(h':CallR X f r'):CallR X f (fun xs H Q=>r xs H Q\/r' xs H Q):=by
 intro pins s σ H xs us Q I rs q
 rcases q with q|q
 ·exact h pins s σ H xs us Q I rs q
 ·exact h' pins s σ H xs us Q I rs q
theorem zeQ:CallR X (.type "list") (fun xs H Q=>∃p ys,xs=[.ref p]/\(SqL X.K H p ys\/SqT X.K H p ys)/\∀l,H l=none->Q (.ref l) (upd H l (.lst ys))):=by
 intro pins s σ H xs us Q I r h
 obtain⟨p,ys,rfl,hq,q⟩:=h
 obtain⟨u,rfl,rx⟩:=zhf r
 cases rx
 have fin: ∀(its:List Value),Vals ys its->ys.length<=sizeLine->∀(h':Heap) (c':Nat),(∀b o',s.heap.get? b=some o'->h'.get? b=some o')->
   h'.get? s.heap.objs.size=some { cls:=.type "list",dict:=none,data:=.seq its.toArray c',slots:= #[] }->EP X pins σ Q (.ref s.heap.objs.size) { s with heap:=h' }:=fun its r' hz h' c' kp e=>
  ⟨.ref s.heap.objs.size,_,I.laid (t':=s.toks) kp (Nat.le_refl _) (show ObjOk X.prog X.w _ h' _ (.lst ys) from ⟨hz,its,c',r',e⟩),rfl,q _ (I.hok.fresh (Nat.le_refl _))⟩
 rcases hq with hq|hq
 ·obtain⟨its,r',pl,hz⟩:=I.list hq
  have hlen:=r'.length
  obtain⟨o,ho,hc,n,hd⟩:=pl.isList
  exact call_list_seq p (.inl rfl) ho hc hd (fun h' c' kp e=>fin its r' hz h' c' kp e) (by simp only[List.size_toArray]<;>omega)
 ·obtain⟨its,r',pl,hz⟩:=I.tuple hq
  have hlen:=r'.length
  obtain⟨o,ho,hc,n,hd⟩:=pl
  exact call_list_seq p (.inr rfl) ho hc hd (fun h' c' kp e=>fin its r' hz h' c' kp e) (by simp only[List.size_toArray]<;>omega)
theorem zdY:CallR X (.type "tuple") (fun xs H Q=>∃p ys,xs=[.ref p]/\((SqL X.K H p ys/\∀l,H l=none->Q (.ref l) (upd H l (.tup ys)))\/(SqT X.K H p ys/\Q (.ref p) H))):=by
 intro pins s σ H xs us Q I r h
 obtain⟨p,ys,rfl,h⟩:=h
 obtain⟨u,rfl,rx⟩:=zhf r
 cases rx
 rcases h with ⟨hq,q⟩|⟨hq,q⟩
 ·obtain⟨its,r',pl,hz⟩:=I.list hq
  have hlen:=r'.length
  refine call_tuple_list pl.isList (fun h' kp=>?_) (by simp only[List.size_toArray]<;>omega)
  have I1:Inv X pins σ H { s with heap:=h' }:=I.kept (t':=s.toks) kp
  have I2:Inv X pins σ (upd H h'.objs.size (.tup ys)) { s with heap:=h'.push { cls:=.type "tuple",data:=.seq its.toArray } }:=
   I1.laid (t':=s.toks) (fun b o e=>Heap.get?_push_of_some _ e) (Nat.le_refl _) (show ObjOk X.prog X.w _ _ _ (.tup ys) from ⟨hz,its,r',IsTup.new _ _⟩)
  exact⟨.ref h'.objs.size,_,I2,rfl,q _ (I1.hok.fresh (Nat.le_refl _))⟩
 ·obtain⟨its,r',pl,hz⟩:=I.tuple hq
  exact call_tuple_same pl ⟨.ref p,H,I,rfl,q⟩
noncomputable def tyV(K:PySem.W.Frag)(T:String)(x:V)(H:Hp):Prop:=match x with
 | .str _=>T="str"
 | .int _=>T="int"
 | .ref p=>(T="list"/\∃xs,SqL K H p xs)\/(T="tuple"/\∃o,K.lookup p=some o/\o.cls= .type "tuple"/\o.dict=none)\/
   (T="dict"/\((∃kvs,H p=some (.dK kvs))\/∃kvs,H p=some (.dT kvs)))\/(T="set"/\∃S n,H p=some (.set S n))
 |_=>False
theorem ztu{pins:List (Addr×Obj)}{σ:St}{H:Hp}{s:Shared}{T:String}{x:V}{v:Value}(I:Inv X pins σ H s)(r:RelV x v)(ty:tyV X.K T x H):
  s.TypeIs v T/\∀a,v= .ref a->∃ob,s.heap.get? a=some ob/\ob.dict=none:=by
 cases x with
 |str z=>
  obtain⟨t,rfl⟩:=r
  cases (show T="str" from ty)
  exact⟨typeIs_str s z t,fun _ e=>nomatch e⟩
 |int i=>
  obtain⟨t,rfl⟩:=r
  cases (show T="int" from ty)
  exact⟨typeIs_int s i t,fun _ e=>nomatch e⟩
 |ref p=>
  cases r
  rcases ty with ⟨rfl,xs,hq⟩|⟨rfl,o,hk,hc,hd⟩|⟨rfl,hk⟩|⟨rfl,S,n,hk⟩
  ·obtain⟨its,_,pl,_⟩:=I.list hq
   refine⟨pl.isList.typeIs,fun a e=>?_⟩
   cases e
   obtain⟨o,n,e,c,hd,_⟩:=pl
   exact⟨o,e,hd⟩
  ·refine⟨⟨o,I.kIn p o hk,hc⟩,fun a e=>?_⟩
   cases e
   exact⟨o,I.kIn _ o hk,hd⟩
  ·have z: ∃o,s.heap.get? p=some o/\o.ExactDict:=by
    rcases hk with ⟨kvs,hk⟩|⟨kvs,hk⟩
    ·obtain⟨_,_,_,_,o,_,_,e,ex,_⟩:=I.hok p _ hk
     exact⟨o,e,ex⟩
    ·obtain⟨_,_,_,_,o,_,_,e,ex,_⟩:=I.hok p _ hk
     exact⟨o,e,ex⟩
   obtain⟨o,e,ex⟩:=z
   refine⟨⟨o,e,ex.1⟩,fun a e2=>?_⟩
   cases e2
   exact⟨o,e,ex.2.1⟩
  ·obtain⟨o,_,_,_,e,ex,_⟩:=I.hok p _ hk
   refine⟨⟨o,e,ex.1⟩,fun a e2=>?_⟩
   cases e2
   exact⟨o,e,ex.2.1⟩
 |_=>exact False.elim ty
noncomputable def tBM(K:PySem.W.Frag)(T:String)(r:V->List V->Hp->VK->Prop)(to:TE)(t:TA):TE:=fun σ H Q=>to σ H fun x H1=>tyV K T x H1/\t σ H1 fun xs H2=>r x xs H2 Q
variable {o e:Expr} {es:List Expr} {to:TE} {t:TA} {name:Str} {apos cpos:Pos} {T id:String} {r:V->List V->Hp->VK->Prop}
theorem zx7(pa:PlainAttrs T)(slot:Slot T name id)(hty:typeOf (.builtin id)=pure (.type "method_descriptor"))(hm:MtR X id r)(ho:PE X o to)(ha:PA X (e::es) t)
  (hbase:attributeBase o name X.env (eval o X.env)=eval o X.env:=by rfl)
  (hfew:((backTo cpos (starEach (e::es) X.env)).all (fun x=> !x.1)&&(backToKw cpos (keywordEach [] X.env)).all (fun x=>x.1.isSome)
   &&decide ((e::es).length+([]:List Keyword).length+(if ([]:List Keyword).isEmpty then 0 else 1)<30))=true:=by rfl)
  (hline:(apos.endLine==cpos.line)=true:=by rfl) (hs:starEach (e::es) X.env=(false,eval e X.env)::starEach es X.env:=by rfl) (hplain:(backTo cpos (starEach es X.env)).any (·.1)=false:=by rfl):
  PE X (.Call (.Attribute o name apos) (e::es) [] cpos) (tBM X.K T r to t):=by
 intro pins s σ H Q I h
 refine wpAny_Call_method_late hbase hfew hline rfl (thn (ho pins s σ H _ I h) fun v s1 ⟨x,H1,I1,r1,ty,q1⟩=>?_)
 obtain⟨h1,h2⟩:=ztu I1 r1 ty
 refine⟨T,id,pa,slot,hty,h1,h2,?_⟩
 have hA:=ha cpos pins s1 σ H1 _ I1 q1
 rw[hs] at hA⊢
 refine Calls.callWith_builtin (by show (false||(backTo cpos (starEach es X.env)).any (·.1))=false;rw[hplain]<;>rfl) (Calls.evalArgs_plain ?_)
 exact thn hA fun us s2 ⟨vs,H2,I2,r2,q2⟩=>hm pins s2 σ H2 x vs v us Q I2 r1 r2 q2
end
end L2
namespace L2
open PySem PySem.Spec PyProof.Rows
noncomputable def MtM(X:Cx)(id:String)(r:V->List V->Hp->VK->Prop):Prop:=
 ∀(pins:List (Addr×Obj)) (s:Shared) (σ:St) (H:Hp) (x:V) (xs:List V) (v:Value) (us:List Value) (Q:VK),Inv X pins σ H s->RelV x v->Vals xs us->r x xs H Q->
  wpAny (model X.prog X.w) X.A (call (.builtin id) (v::us)) (EP X pins σ Q) X.xe s
theorem Vals.one: ∀{x:V} {us:List Value},Vals [x] us->∃u,us=[u]/\RelV x u
 |_,_,.cons r .nil=>⟨_,rfl,r⟩
theorem Vals.two: ∀{x y:V} {us:List Value},Vals [x,y] us->∃u v,us=[u,v]/\RelV x u/\RelV y v
 |_,_,_,.cons r (.cons q .nil)=>⟨_,_,rfl,r,q⟩
theorem Vals.zero: ∀{us:List Value},Vals [] us->us=[]
 |_,.nil=>rfl
theorem Vals.rep{xs:List V}{us:List Value}(h:Vals xs us): ∀k:Nat,Vals (List.replicate k xs).flatten (List.replicate k us).flatten
 |0=>.nil
 |k+1=>by
  rw[List.replicate_succ,List.replicate_succ,List.flatten_cons,List.flatten_cons]
  exact Vals.append h (Vals.rep h k)
section
variable {X:Cx} {pins:List (Addr×Obj)} {σ:St} {H:Hp} {s:Shared} {l b:Addr} {xs ys zs:List V}
theorem Inv.lset{its its':List Value}{n:Nat}{f:Array Value->Array Value}{t':Nat}(I:Inv X pins σ H s)(hH:H l=some (.lst xs))
  (e:s.heap.get? l=some { cls:=.type "list",data:=.seq its.toArray n }) (hf:f its.toArray=its'.toArray) (hv:Vals ys its') (hz:ys.length<=sizeLine):
  Inv X pins σ (upd H l (.lst ys)) { s with heap:=s.heap.update l (Obj.mapSeq f),toks:=t' }:=by
 have q:=PySem.IsL.update e f
 rw[hf] at q
 refine I.write (x:=l) (e:=l) (by rw[hH];exact trivial) (.inl rfl) (fun b' u hb hu=>(Heap.get?_update_other s.heap (Obj.mapSeq f) (Ne.symm hb)).trans hu) ⟨_,q⟩ ?_
 exact⟨hz,its',_,hv,q⟩
theorem Inv.lnew{its:List Value}{t':Nat}(I:Inv X pins σ H s)(hv:Vals ys its)(hz:ys.length<=sizeLine):
  Inv X pins σ (upd H s.heap.objs.size (.lst ys)) { s with heap:=s.heap.push { cls:=.type "list",data:=.seq its.toArray },toks:=t' }:=
 I.laid (fun _ _ q=>Heap.get?_push_of_some _ q) (Nat.le_refl _) ⟨hz,its,0,hv,Heap.get?_push_size _ rfl⟩
theorem Inv.fresh(I:Inv X pins σ H s):H s.heap.objs.size=none:=I.hok.fresh (Nat.le_refl _)
theorem Inv.lstM(I:Inv X pins σ H s)(hH:H l=some (.lst xs)):xs.length<=sizeLine/\∃(its:List Value) (n:Nat),Vals xs its/\xs.length=its.length/\s.heap.get? l=some { cls:=.type "list",data:=.seq its.toArray n }:=by
 obtain⟨z,its,n,r,e⟩:=I.hok l _ hH
 exact⟨z,its,n,r,r.length,e⟩
end
section
variable {X:Cx}
noncomputable def zrt:V->List V->Hp->VK->Prop:=fun x vs H Q=>∃l xs y,x= .ref l/\vs=[y]/\H l=some (.lst xs)/\xs.length<sizeLine/\Q .non (upd H l (.lst (xs++[y])))
theorem ziB:MtM X "list.append" zrt:=by
 intro pins s σ H x vs v us Q I rx rv h
 obtain⟨l,xs,y,rfl,rfl,hH,hz,q⟩:=h
 cases rx
 obtain⟨u,rfl,ru⟩:=rv.one
 obtain⟨z,its,n,r,hl,e⟩:=I.lstM hH
 refine call_meets F.slot_list_append ⟨_,e,rfl⟩ F.entry_list_append (F.args_list_append_2 _ _) (PySem.list_append l its.toArray n u (by rw[List.size_toArray];omega)) ⟨e,?_⟩
 refine⟨.non,_,I.lset (its':=its++[u]) hH e (by simp) (r.append (.cons ru .nil)) ?_,rfl,q⟩
 rw[List.length_append,List.length_singleton]
 omega
end
end L2
namespace L2
open PySem PySem.Spec PyProof.Rows
section
variable {κ:Type} [DecidableEq κ]
noncomputable def zgN(kvs:List (κ×V))(k:κ):Option V:=(kvs.find? fun kv=>decide (kv.1=k)).map (·.2)
noncomputable def zgO(kvs:List (κ×V))(k:κ)(v:V):List (κ×V):=
 if (kvs.any fun kv=>decide (kv.1=k))=true then kvs.map (fun kv=>if kv.1=k then (kv.1,v) else kv) else kvs++[(k,v)]
noncomputable def ztv(kvs:List (κ×V))(k:κ):List (κ×V):=kvs.filter fun kv=>decide (kv.1≠k)
theorem zdZ{p:κ×V}{r:List (κ×V)}{k:κ}(e:p.1=k):zgN (p::r) k=some p.2:=by simp[zgN,List.find?_cons,e]
theorem zd0{p:κ×V}{r:List (κ×V)}{k:κ}(e: ¬p.1=k):zgN (p::r) k=zgN r k:=by simp[zgN,List.find?_cons,e]
theorem zfo(k:κ): ∀kvs:List (κ×V),(kvs.any fun kv=>decide (kv.1=k))=(zgN kvs k).isSome
 |[]=>rfl
 |p::r=>by
  rw[List.any_cons]
  by_cases e:p.1=k
  ·simp only[zdZ e,decide_eq_true e,Bool.true_or,Option.isSome_some]
  ·rw[zd0 e,decide_eq_false e,Bool.false_or];exact zfo k r
theorem zfA(kvs:List (κ×V))(k:κ)(v:V):(zgO kvs k v).length<=kvs.length+1:=by
 unfold zgO
 split
 ·rw[List.length_map];omega
 ·rw[List.length_append,List.length_cons,List.length_nil];omega
theorem RelO.isSome_eq{o:Option V}{u:Option Value}(r:RelO o u):o.isSome=u.isSome:=by
 cases o with
 |none=>cases u with
  |none=>rfl
  |some _=>exact (show False from r).elim
 |some _=>cases u with
  |none=>exact (show False from r).elim
  |some _=>rfl
theorem RelO.getD{o:Option V}{u:Option Value}{d:V}{d':Value}(r:RelO o u)(rd:RelV d d'):RelV (o.getD d) (u.getD d'):=by
 cases o with
 |none=>cases u with
  |none=>exact rd
  |some _=>exact (show False from r).elim
 |some _=>cases u with
  |none=>exact (show False from r).elim
  |some _=>exact r
theorem KV.val{kvs:List (κ×V)}{vs:List (κ×Value)}(r:KV kvs vs)(k:κ):RelO (zgN kvs k) (valueAt vs k):=by
 unfold KV at r
 induction r with
 |nil=>exact True.intro
 | @cons p q ps qs h t ih=>
  obtain⟨h1,h2⟩:=h
  by_cases e:p.1=k
  ·have e':q.1=k:=h1.symm.trans e
   have b:valueAt (q::qs) k=some q.2:=by simp[valueAt,List.find?_cons,e']
   rw[zdZ e,b];exact h2
  ·have e': ¬q.1=k:=fun z=>e (h1.trans z)
   have b:valueAt (q::qs) k=valueAt qs k:=by simp[valueAt,List.find?_cons,e']
   rw[zd0 e,b];exact ih
theorem KV.any{kvs:List (κ×V)}{vs:List (κ×Value)}(r:KV kvs vs)(k:κ):(kvs.any fun kv=>decide (kv.1=k))=vs.any fun kv=>decide (kv.1=k):=by
 unfold KV at r
 induction r with
 |nil=>rfl
 |cons h t ih=>rw[List.any_cons,List.any_cons,ih,h.1]
theorem KV.repl{kvs:List (κ×V)}{vs:List (κ×Value)}(r:KV kvs vs)(k:κ){y:V}{u:Value}(ry:RelV y u):
  KV (kvs.map fun kv=>if kv.1=k then (kv.1,y) else kv) (vs.map fun kv=>if kv.1=k then (kv.1,u) else kv):=by
 unfold KV at r⊢
 induction r with
 |nil=>exact .nil
 | @cons p q ps qs h t ih=>
  rw[List.map_cons,List.map_cons]
  refine .cons ?_ ih
  obtain⟨h1,h2⟩:=h
  by_cases e:p.1=k
  ·rw[if_pos e,if_pos (h1.symm.trans e)];exact⟨h1,ry⟩
  ·rw[if_neg e,if_neg (fun z=>e (h1.trans z))];exact⟨h1,h2⟩
theorem KV.put{kvs:List (κ×V)}{vs:List (κ×Value)}(r:KV kvs vs)(k:κ){y:V}{u:Value}(ry:RelV y u):KV (zgO kvs k y) (stored vs k u):=by
 unfold zgO stored
 rw[r.any k]
 by_cases e:(vs.any fun kv=>decide (kv.1=k))=true
 ·rw[if_pos e,if_pos e];exact r.repl k ry
 ·rw[if_neg e,if_neg e];exact Paired.snoc r ⟨rfl,ry⟩
theorem KV.drop{kvs:List (κ×V)}{vs:List (κ×Value)}(r:KV kvs vs)(k:κ):KV (ztv kvs k) (without vs k):=by
 unfold KV at r⊢
 unfold ztv without
 induction r with
 |nil=>exact .nil
 | @cons p q ps qs h t ih=>
  obtain⟨h1,h2⟩:=h
  rw[List.filter_cons,List.filter_cons]
  by_cases e:p.1=k
  ·have a: ¬decide (p.1≠k)=true:=by simp[e]
   have b: ¬decide (q.1≠k)=true:=by simp[h1.symm.trans e]
   rw[if_neg a,if_neg b];exact ih
  ·have e': ¬q.1=k:=fun z=>e (h1.trans z)
   have a:decide (p.1≠k)=true:=by simp[e]
   have b:decide (q.1≠k)=true:=by simp[e']
   rw[if_pos a,if_pos b];exact .cons ⟨h1,h2⟩ ih
theorem KV.keys{kvs:List (κ×V)}{vs:List (κ×Value)}(r:KV kvs vs):kvs.map (·.1)=vs.map (·.1):=by
 unfold KV at r
 induction r with
 |nil=>rfl
 |cons h t ih=>rw[List.map_cons,List.map_cons,ih,h.1]
theorem KV.length{kvs:List (κ×V)}{vs:List (κ×Value)}(r:KV kvs vs):kvs.length=vs.length:=Paired.length r
end
theorem zmP{P:Program}{w:World}{k:Key}{u:Value}(r:RelV (kV k) u):(za6 P w).is k u=true:=by
 cases k with
 |inl i=>obtain⟨t,e⟩:=(show ∃t,u=Value.int i t from r);subst e;exact zjY P w i t
 |inr x=>obtain⟨t,e⟩:=(show ∃t,u=Value.str x t from r);subst e;exact zjZ P w x t
theorem ziC{P:Program}{w:World}: ∀{ks:List Key} {us:List Value},Vals (ks.map kV) us->ItemsAre (za6 P w) ks us
 |[],_,r=>by rw[List.map_nil] at r;cases r;exact .nil
 |k::ks,_,r=>by
  rw[List.map_cons] at r
  cases r with
  |cons h t=>exact .cons (zmP h) (ziC t)
noncomputable abbrev KT(H:Hp):List (List Key×V)->List (List Key×Addr×Value)->Prop:=Paired fun p q=>p.1=q.1/\H q.2.1=some (.tup (p.1.map kV))/\RelV p.2 q.2.2
theorem KT.val{H:Hp}{kvs:List (List Key×V)}{xs:List (List Key×Addr×Value)}(r:KT H kvs xs)(k:List Key):RelO (zgN kvs k) ((atKey xs k).map (·.2)):=by
 induction r with
 |nil=>exact True.intro
 | @cons p q ps qs h t ih=>
  obtain⟨h1,_,h2⟩:=h
  by_cases e:p.1=k
  ·have e':q.1=k:=h1.symm.trans e
   have b:atKey (q::qs) k=some q.2:=by simp[atKey,List.find?_cons,e']
   rw[zdZ e,b];exact h2
  ·have e': ¬q.1=k:=fun z=>e (h1.trans z)
   have b:atKey (q::qs) k=atKey qs k:=by simp[atKey,List.find?_cons,e']
   rw[zd0 e,b];exact ih
theorem KT.repl{H:Hp}{kvs:List (List Key×V)}{xs:List (List Key×Addr×Value)}(r:KT H kvs xs)(k:List Key){y:V}{u:Value}(ry:RelV y u):
  KT H (kvs.map fun kv=>if kv.1=k then (kv.1,y) else kv) (xs.map (putAt k u)):=by
 induction r with
 |nil=>exact .nil
 | @cons p q ps qs h t ih=>
  rw[List.map_cons,List.map_cons]
  refine .cons ?_ ih
  obtain⟨h1,h2,h3⟩:=h
  unfold putAt
  by_cases e:p.1=k
  ·rw[if_pos e,if_pos (h1.symm.trans e)];exact⟨h1,h2,ry⟩
  ·rw[if_neg e,if_neg (fun z=>e (h1.trans z))];exact⟨h1,h2,h3⟩
theorem KT.put{H:Hp}{kvs:List (List Key×V)}{xs:List (List Key×Addr×Value)}(r:KT H kvs xs)(k:List Key){b:Addr}{y:V}{u:Value}(hb:H b=some (.tup (k.map kV)))(ry:RelV y u):
  KT H (zgO kvs k y) (storedH xs k b u):=by
 have e:(kvs.any fun kv=>decide (kv.1=k))=(atKey xs k).isSome:=by
  rw[zfo,(r.val k).isSome_eq,Option.isSome_map]
 unfold zgO storedH
 rw[e]
 by_cases q:(atKey xs k).isSome=true
 ·rw[if_pos q,if_pos q];exact r.repl k ry
 ·rw[if_neg q,if_neg q];exact Paired.snoc r ⟨rfl,hb,ry⟩
theorem KT.keeps{H H':Hp}{kvs:List (List Key×V)}{xs:List (List Key×Addr×Value)}(r:KT H kvs xs)(ht: ∀b ys,H b=some (.tup ys)->H' b=some (.tup ys)):KT H' kvs xs:=
 Paired.mapP r fun _ _ z=>⟨z.1,ht _ _ z.2.1,z.2.2⟩
section
variable {P:Program} {w:World} {H:Hp} {h:Heap} {a:Addr}
theorem ztw{u:HO}(ok:HOk P w H h)(e:Rd H a u):ObjOk P w H h a u:=e.ok ok
theorem zlP{kvs:List (Key×V)}(ok:HOk P w H h)(e:Rd H a (.dK kvs)):kvs.length<=sizeLine/\(a==sysModules)=false/\∃vs,KV kvs vs/\h.DictOf (za6 P w) a vs:=
 show ObjOk P w H h a (.dK kvs) from ztw ok e
theorem zx8{kvs:List (Key×V)}(ok:HOk P w H h)(e:H a=some (.dK kvs)):kvs.length<=sizeLine/\(a==sysModules)=false/\∃vs,KV kvs vs/\h.DictOf (za6 P w) a vs:=zlP ok (.inl e)
theorem zgP{ks:List Key}(ok:HOk P w H h)(e:H a=some (.tup (ks.map kV))):(tupleKind (za6 P w)).is h ks a:=by
 obtain⟨_,its,r,o,h1,h2,n,h3⟩:=(show ObjOk P w H h a (.tup (ks.map kV)) from ok a _ e)
 exact⟨o,its.toArray,n,h1,h2,h3,by simpa using ziC r⟩
theorem zlQ{kvs:List (List Key×V)}(ok:HOk P w H h)(e:Rd H a (.dT kvs)):kvs.length<=sizeLine/\(a==sysModules)=false/\
  ∃xs,KT H kvs xs/\h.DictOfH (tupleKind (za6 P w)) a xs:=by
 obtain⟨z,y,xs,r,o,es,ep,h1,h2,h3,h4,h5⟩:=(show ObjOk P w H h a (.dT kvs) from ztw ok e)
 refine⟨z,y,xs,r,o,es,ep,h1,h2,h3,h4,fun x hx=>?_,h5⟩
 have all: ∀{l:List (List Key×V)} {m:List (List Key×Addr×Value)},KT H l m->∀x∈m,(tupleKind (za6 P w)).is h x.1 x.2.1:=by
  intro l m q
  induction q with
  |nil=>intro x hx;exact nomatch hx
  | @cons p q ps qs hq t ih=>
   intro x hx
   rcases List.mem_cons.mp hx with e|hx
   ·subst e
    exact zgP ok (by rw[<-hq.1];exact hq.2.1)
   ·exact ih x hx
 exact all r x hx
theorem zx9{kvs:List (List Key×V)}(ok:HOk P w H h)(e:H a=some (.dT kvs)):kvs.length<=sizeLine/\(a==sysModules)=false/\
  ∃xs,KT H kvs xs/\h.DictOfH (tupleKind (za6 P w)) a xs:=zlQ ok (.inl e)
end
noncomputable def DGet(H:Hp)(a:Addr)(y:V)(r:Option V):Prop:=
 (∃kvs k,Rd H a (.dK kvs)/\y=kV k/\r=zgN kvs k)\/∃kvs k b,Rd H a (.dT kvs)/\y= .ref b/\H b=some (.tup (k.map kV))/\r=zgN kvs k
noncomputable def DPut(H:Hp)(a:Addr)(y v:V)(H':Hp):Prop:=
 (∃kvs k,H a=some (.dK kvs)/\y=kV k/\kvs.length<sizeLine/\H'=upd H a (.dK (zgO kvs k v)))\/
 ∃kvs k b,H a=some (.dT kvs)/\y= .ref b/\H b=some (.tup (k.map kV))/\kvs.length<sizeLine/\H'=upd H a (.dT (zgO kvs k v))
theorem DGet.k{H:Hp}{a:Addr}{kvs:List (Key×V)}{k:Key}(e:H a=some (.dK kvs)):DGet H a (kV k) (zgN kvs k):=.inl ⟨kvs,k,.inl e,rfl,rfl⟩
theorem DGet.t{H:Hp}{a b:Addr}{kvs:List (List Key×V)}{k:List Key}(e:H a=some (.dT kvs))(eb:H b=some (.tup (k.map kV))):DGet H a (.ref b) (zgN kvs k):=.inr ⟨kvs,k,b,.inl e,rfl,eb,rfl⟩
theorem DPut.k{H:Hp}{a:Addr}{kvs:List (Key×V)}{k:Key}{v:V}(e:H a=some (.dK kvs))(hl:kvs.length<sizeLine):DPut H a (kV k) v (upd H a (.dK (zgO kvs k v))):=.inl ⟨kvs,k,e,rfl,hl,rfl⟩
theorem DPut.t{H:Hp}{a b:Addr}{kvs:List (List Key×V)}{k:List Key}{v:V}(e:H a=some (.dT kvs))(eb:H b=some (.tup (k.map kV)))(hl:kvs.length<sizeLine):
  DPut H a (.ref b) v (upd H a (.dT (zgO kvs k v))):=.inr ⟨kvs,k,b,e,rfl,eb,hl,rfl⟩
section
variable {X:Cx} {pins:List (Addr×Obj)} {σ:St} {H:Hp} {s:Shared} {a:Addr} {y v:V} {u r:Value} {o:Option V} {A:Around} {E:Value->Shared->Prop}
theorem Inv.big(I:Inv X pins σ H s):sysModules<s.heap.objs.size:=by
 have h:mainGlobals<s.heap.objs.size:=(I.mod.glob.keeps I.bk).lt
 exact Nat.lt_trans (by decide) h
theorem zmQ{Q:Value->Shared->Prop}(hu:A.units+1<cLine)(I:Inv X pins σ H s)(g:DGet H a y (some v))(ry:RelV y u)(h: ∀w' s',Inv X pins σ H s'->RelV v w'->Q w' s'):
  wpAny (model X.prog X.w) A (getItem (.ref a) u) Q E s:=by
 rcases g with ⟨kvs,k,e,ey,l⟩|⟨kvs,k,b,e,ey,eb,l⟩
 ·subst ey
  obtain⟨z,hd,vs,rel,dd⟩:=zlP I.hok e
  obtain⟨w',hw,rw'⟩:=RelO.some_of (v:=v) (o:=valueAt vs k) (by rw[l];exact rel.val k)
  exact wpAny_getItem_of (zmP ry) dd.mapOf hw (h w' _ (I.tok _) rw')
 ·subst ey
  cases (show u=Value.ref b from ry)
  obtain⟨z,hd,xs,rel,dd⟩:=zlQ I.hok e
  obtain⟨w',hw,rw'⟩:=RelO.some_of (v:=v) (o:=(atKey xs k).map (·.2)) (by rw[l];exact rel.val k)
  obtain⟨p,hp,hp2⟩:=jo2.mp hw
  refine wpAny_getItem_heap (tupleKind_room_in1 hu) (zgP I.hok eb) dd hp ?_
  rw[hp2]
  exact h w' _ (I.tok _) rw'
theorem zzI{Q:Value->Shared->Prop}(hu:A.units+1<cLine)(I:Inv X pins σ H s)(g:DGet H a y o)(ry:RelV y u)(h: ∀s',Inv X pins σ H s'->Q (.bool o.isSome) s'):
  wpAny (model X.prog X.w) A (compareOp .In u (.ref a)) Q E s:=by
 rcases g with ⟨kvs,k,e,ey,l⟩|⟨kvs,k,b,e,ey,eb,l⟩
 ·subst ey
  obtain⟨z,hd,vs,rel,dd⟩:=zlP I.hok e
  refine wpAny_in_of (zmP ry) hd dd.mapOf ?_
  rw[<-(rel.val k).isSome_eq,<-l]
  exact h _ (I.tok _)
 ·subst ey
  cases (show u=Value.ref b from ry)
  obtain⟨z,hd,xs,rel,dd⟩:=zlQ I.hok e
  refine wpAny_in_heap (tupleKind_room_in1 hu) (zgP I.hok eb) hd dd ?_
  have q:=(rel.val k).isSome_eq
  rw[Option.isSome_map] at q
  rw[<-q,<-l]
  exact h _ (I.tok _)
theorem zmR{Q:Value->Shared->Prop}(hu:A.units+1<cLine)(I:Inv X pins σ H s)(g:DGet H a y o)(ry:RelV y u)(h: ∀s',Inv X pins σ H s'->Q (.bool (!o.isSome)) s'):
  wpAny (model X.prog X.w) A (compareOp .NotIn u (.ref a)) Q E s:=by
 rcases g with ⟨kvs,k,e,ey,l⟩|⟨kvs,k,b,e,ey,eb,l⟩
 ·subst ey
  obtain⟨z,hd,vs,rel,dd⟩:=zlP I.hok e
  refine wpAny_notIn_of (zmP ry) hd dd.mapOf ?_
  rw[<-(rel.val k).isSome_eq,<-l]
  exact h _ (I.tok _)
 ·subst ey
  cases (show u=Value.ref b from ry)
  obtain⟨z,hd,xs,rel,dd⟩:=zlQ I.hok e
  refine wpAny_notIn_heap (tupleKind_room_in1 hu) (zgP I.hok eb) hd dd ?_
  have q:=(rel.val k).isSome_eq
  rw[Option.isSome_map] at q
  rw[<-q,<-l]
  exact h _ (I.tok _)
theorem zmS{h':Heap}{t':Nat}{ob:HO}(I:Inv X pins σ H s)(mu:Mut (H a))(hs:Heap.SameBut a s.heap h')(he: ∃q,h'.get? a=some q)(new:ObjOk X.prog X.w (upd H a ob) h' a ob):
  Inv X pins σ (upd H a ob) { s with heap:=h',toks:=t' }:=
 I.write (x:=a) (e:=a) mu (.inl rfl) (fun b q hb z=>(hs.2 b hb).trans z) he new
theorem ztx{P:Program}{w:World}{H':Hp}{h':Heap}{kvs:List (Key×V)}{vs:List (Key×Value)}(z:kvs.length<=sizeLine)(hd:(a==sysModules)=false)(rel:KV kvs vs)(dd:h'.DictOf (za6 P w) a vs):
  ObjOk P w H' h' a (.dK kvs):=⟨z,hd,vs,rel,dd⟩
theorem zmT{H':Hp}{Q:Unit->Shared->Prop}(hu:A.units+1<cLine)(I:Inv X pins σ H s)(g:DPut H a y v H')(ry:RelV y u)(rv:RelV v r)(h: ∀s',Inv X pins σ H' s'->Q () s'):
  wpAny (model X.prog X.w) A (setItem (.ref a) u r) Q E s:=by
 rcases g with ⟨kvs,k,e,ey,l,eH⟩|⟨kvs,k,b,e,ey,eb,l,eH⟩
 ·subst ey eH
  obtain⟨z,hd,vs,rel,dd⟩:=zx8 I.hok e
  have hz:vs.length<=sizeLine:=by rw[<-rel.length];exact z
  have hl:(zgO kvs k v).length<=sizeLine:=by have:=zfA kvs k v;omega
  refine wpAny_setItem_pairs (hsz:=hz) (zmP ry) dd fun h' dd' hs=>h _ ?_
  have he: ∃q,h'.get? a=some q:=let ⟨q,_,_,hq,_⟩:=dd';⟨q,hq⟩
  exact zmS I (by rw[e];exact True.intro) hs he (ztx hl hd (rel.put k rv) dd')
 ·subst ey eH
  cases (show u=Value.ref b from ry)
  obtain⟨z,hd,xs,rel,dd⟩:=zx9 I.hok e
  have hz:xs.length<=sizeLine:=by rw[<-Paired.length rel];exact z
  have hl:(zgO kvs k v).length<=sizeLine:=by have:=zfA kvs k v;omega
  refine wpAny_setItem_heap (hsz:=hz) (tupleKind_room_in1 hu) (zgP I.hok eb) dd fun h' dd' hs=>h _ ?_
  obtain⟨q,es,ep,hq,h2,h3,h4,_,h5⟩:=dd'
  refine zmS I (by rw[e];exact True.intro) hs ⟨q,hq⟩ ⟨hl,hd,_,(rel.put k eb rv).keeps fun c ys ec=>?_,q,es,ep,hq,h2,h3,h4,h5⟩
  rw[za9 (zxM ec e (fun z=>nomatch z))]
  exact ec
end
theorem zj3{X:Cx}{pins:List (Addr×Obj)}{σ:St}{H:Hp}{s:Shared}{a:Addr}{y:V}{o:Option V}(I:Inv X pins σ H s)(g:DGet H a y o):s.TypeIs (.ref a) "dict":=by
 rcases g with ⟨kvs,k,e,_,_⟩|⟨kvs,k,b,e,_,_,_⟩
 ·obtain⟨_,_,vs,_,dd⟩:=zlP I.hok e
  exact dd.typeIs
 ·obtain⟨_,_,xs,_,dd⟩:=zlQ I.hok e
  exact dd.typeIs
noncomputable def zya(td ty tv:TE):TS:=fun D σ H=>tv σ H fun v H1=>td σ H1 fun x H2=>ty σ H2 fun y H3=>∃a H4,x= .ref a/\DPut H3 a y v H4/\D.nx σ H4
section
variable {X:Cx} {o i e value:Expr} {pos pos' tpos:Pos} {td ty tv:TE}
theorem zru(hu:X.A.units+1<cLine)(ho:PE X o td)(hi:PE X i ty)(hv:PE X value tv)(hs:swapsWith value (some (.Subscript o i pos')) pos.line X.env=pure false):
  PS X (.Assign [.Subscript o i pos'] value pos) (zya td ty tv):=by
 intro pins s σ H D I h
 refine wpAny_Assign_Subscript (thn (hv pins s σ H _ I h) fun r s1 ⟨v,H1,I1,rv,q1⟩=>thn (ho pins s1 σ H1 _ I1 q1) fun u s2 ⟨x,H2,I2,rx,q2⟩=>thn (hi pins s2 σ H2 _ I2 q2) fun iv s3 ⟨y,H3,I3,ry,a,H4,ex,g,q3⟩=>?_) hs
 subst ex
 obtain rfl:u=Value.ref a:=rx
 exact zmT hu I3 g ry rv fun s4 I4=>⟨σ,H4,I4,q3⟩
end
theorem zpa{P:Program}{w:World}{H:Hp}(h:Heap)(hb:sysModules<h.objs.size):ObjOk P w H (h.push { cls:=.type "dict",data:=.dict #[] }) h.objs.size (.dK []):=
 ⟨Nat.zero_le _,beq_eq_false_iff_ne.mpr (Ne.symm (Nat.ne_of_lt hb)),[],.nil,Heap.DictOf.new h⟩
theorem zpb{P:Program}{w:World}{H:Hp}(h:Heap)(hb:sysModules<h.objs.size):ObjOk P w H (h.push { cls:=.type "dict",data:=.dict #[] }) h.objs.size (.dT []):=
 ⟨Nat.zero_le _,beq_eq_false_iff_ne.mpr (Ne.symm (Nat.ne_of_lt hb)),[],.nil,_, #[],0,Heap.get?_push_size _ rfl,⟨rfl,rfl,rfl⟩,rfl,rfl,List.nodup_nil⟩
noncomputable def zty:TE:=fun _ H Q=>∀p,H p=none->Q (.ref p) (upd H p (.dK []))
noncomputable def ztz:TE:=fun _ H Q=>∀p,H p=none->Q (.ref p) (upd H p (.dT []))
section
variable {X:Cx} {pos:Pos}
theorem zkM:PE X (.Dict [] [] pos) zty:=fun pins s σ H Q I h=>
 wpAny_Dict_empty ⟨.ref s.heap.objs.size,_,I.laid (a:=s.heap.objs.size) (o:=.dK []) (t':=s.toks) (fun _ _ q=>Heap.get?_push_of_some _ q) (Nat.le_refl _) (zpa s.heap I.big),rfl,h _ (I.hok.fresh (Nat.le_refl _))⟩
theorem zkN:PE X (.Dict [] [] pos) ztz:=fun pins s σ H Q I h=>
 wpAny_Dict_empty ⟨.ref s.heap.objs.size,_,I.laid (a:=s.heap.objs.size) (o:=.dT []) (t':=s.toks) (fun _ _ q=>Heap.get?_push_of_some _ q) (Nat.le_refl _) (zpb s.heap I.big),rfl,h _ (I.hok.fresh (Nat.le_refl _))⟩
end
noncomputable def ztA(kvs more:List (Key×V)):List (Key×V):=more.foldl (fun acc kv=>zgO acc kv.1 kv.2) kvs
theorem KV.merge: ∀{more:List (Key×V)} {rs:List (Key×Value)} {kvs:List (Key×V)} {vs:List (Key×Value)},KV more rs->KV kvs vs->KV (ztA kvs more) (merged vs rs):=by
 intro more rs kvs vs r
 unfold KV at r
 induction r generalizing kvs vs with
 |nil=>intro q;exact q
 | @cons p q ps qs h t ih=>
  intro r0
  have e:KV (zgO kvs p.1 p.2) (stored vs q.1 q.2):=by
   have:=r0.put p.1 h.2
   rw[<-h.1];exact this
  exact ih e
end L2
namespace Att
open PySem PySem.W PySem.Calls PyProof.Rows
theorem zfB{P:Params}{h:Heap}: ∀(ns:List Int) (vs:List Value),WellAll P h vs (ns.map WData.int)->IntsAre vs ns:=by
 intro ns
 induction ns with
 |nil=>
  intro vs w
  rw[List.map_nil] at w
  cases w
  exact .nil
 |cons n ns ih=>
  intro vs w
  rw[List.map_cons] at w
  cases w with
  |cons a b=>
   cases a
   exact .cons _ _ (ih _ b)
theorem zmU{l:OpenLaw}{n:Nat}(hn:l.most=some n){P:Params}{h:Heap}{args:List WData}{vals:List Value}
  (hpre:l.row.toRowW.claim.pre args=true) (hwl:WellAll P h vals args):
  ∃a vs ns,vals=[Value.ref a]/\args=[WData.list (ns.map WData.int)]/\h.get? a=some { cls:=.type "list",data:=.seq vs.toArray }/\IntsAre vs ns/\ns.length<=n:=by
 have hsh:WShape.hasAll [] args [.list .int]=true:=(pre_splitW hpre).1
 have hc:l.pre.holds [] { args:=args }=true:=(pre_splitW hpre).2
 obtain⟨d,r,rfl,h1,h2⟩:=hasAllW_cons hsh
 obtain rfl:=hasAllW_nil h2
 obtain⟨xs,rfl,h3⟩:=hasW_list h1
 obtain⟨ns,rfl⟩:=items_int h3
 have hlen:ns.length<=n:=by
  unfold OpenLaw.pre at hc
  have h4:(WTm.not (.lt (.lit (.int (n:Int))) (.len (.arg 0)))).holds [] { args:=[.list (ns.map .int)] }=true:=by
   have h4:=(holds_andW hc).1
   rw[hn] at h4
   exact h4
  have h5:=condW_of h4 (w_not (w_lt w_lit (w_len_list (w_arg rfl))))
  rw[List.length_map] at h5
  refine Nat.le_of_not_lt fun q=>?_
  have q':(n:Int)<((ns.length:Nat):Int):=by omega
  first
   |(rw[decide_eq_true q'] at h5;exact absurd h5 (by decide))
   |(simp at h5;omega)
 cases hwl with
 |cons w1 w2=>
  cases w2
  cases w1 with
  |list ho hall=>exact⟨_,_,ns,rfl,rfl,ho,zfB ns _ hall,hlen⟩
theorem zmV(l:OpenLaw)(args:List WData):l.row.toRowW.claim.post args (.bool true) args=true:=
 postW_of (r:=l.row.toRowW) (X:=(true==true))
  (show WShape.has [] (.bool true) .bool=true by first|rfl|decide|simp[WShape.has,WShape.arms,WShape.armsAll])
  (show (WTm.eq .res (.lit (.bool true))).value [] { args:=args,res:=some (.bool true),after:=args }=some (.bool (true==true)) from w_eq_bool (w_res rfl) w_lit) rfl
theorem attach_call{l:OpenLaw}{n:Nat}{q:Program}{loose:List Str}{XP:(Str->Option Value)->Heap->Prop}{YP:World->Heap->Prop}{d:DefRec}
  (hn:l.most=some n) (hdf:d.params.defaults=[])
  (call: ∀(w:World) (s₀ s₁:Shared) (mg mb:Str->Option Value) (fa:Addr) (o:Obj) (pm cd doc:Value) (a:Addr) (vs:List Value) (ns:List Int),
   Ground q loose [] XP w s₀ mg mb s₁.heap->YP w s₁.heap->
   s₁.heap.get? fa=some o->o.data= .func (docDef d.name d.params d.body d.scope pm cd doc)->s₁.heap.CodeRec cd d.name->mg d.name=some (.ref fa)->
   s₁.heap.get? a=some { cls:=.type "list",data:=.seq vs.toArray }->IntsAre vs ns->ns.length<=n->s₁.gens= #[]->
   codeAny (model l.prog w) callerA (.call (.ref fa) ⟨[.ref a],[]⟩) (fun r s'=>r= .ok (.ret (.bool true))/\OldK s₁.heap s'.heap/\s'.os=s₁.os/\AllBare s'.gens) s₁):
  WalkO q loose XP YP l.row.toRowW d [] (fun f vs=>PySem.call f vs):=by
 intro w s₀ s₁ mg mb G Y fa o pm cd doc dV kV ho hd hcd hD hmg hg args vals as hpre hlay hrd hwl hlo
 obtain rfl:dV= .none:=Dflts.none hD hdf
 obtain rfl:kV= .none:=Dflts.noKw hD
 obtain⟨a,vs,ns,rfl,rfl,hobj,hints,hlen⟩:=zmU hn hpre hwl
 refine enter_call (codeAny_mono (call w s₀ s₁ mg mb fa o pm cd doc a vs ns G Y ho (fd_plain hd) hcd hmg hobj hints hlen hg) fun r s' hq=>?_)
 obtain⟨rfl,h2,h3,h4⟩:=hq
 exact⟨.inl ⟨.bool true,.bool true,[],rfl,fun _=>rfl,.bool true,zmV l _,fun _=>⟨List.Pairwise.nil,fun _ hm=>(nomatch hm)⟩⟩,h2,h3,h4⟩
section
variable {prog:Program} {w:World} {A:Around} {E:Value->Shared->Prop} {s:Shared} {K:Frag}
noncomputable def zzJ(h:Heap)(L d:Addr):List (Addr×Obj):=(List.range h.objs.size).filterMap fun a=>if a=L\/a=d then none else (h.get? a).map fun o=>(a,o)
end
end Att
namespace L2
open PySem PySem.Spec PyProof.Rows
theorem zfC: ∀{vs:List Value} {ns:List Int},IntsAre vs ns->Vals (ns.map V.int) vs
 |_,_,.nil=>.nil
 |_,_,.cons n t h=>.cons ⟨t,rfl⟩ (zfC h)
noncomputable def zwh(H:Hp):Prop:=∀b,H b=none\/∃o xs,H b=some (.frz o (.lst xs))
theorem zpc{P:Program}{w:World}{K:PySem.W.Frag}{mg mb:Str->Option Value}{CX:CXT}{k:Nat}{fa a:Addr}{fd:FuncData}{x:Str}{sp:Sp}{s₁:Shared}{vs:List Value}{ns:List Int}
  (KX:K.In s₁.heap) (hns:s₁.heap.Ns mainGlobals mg) (hb:s₁.heap.Ns builtinsNs mb) (hbb: ∀x:Str,x≠"__name__"->mb x=bootBuiltins x) (hlim:s₁.heap.NoLimit) (hg:s₁.gens= #[])
  (ha:s₁.heap.get? a=some { cls:=.type "list",data:=.seq vs.toArray }) (hi:IntsAre vs ns) (hl:ns.length<=sizeLine) (hr:Room k callerA)
  (F: ∀base:Heap,K.In base->base.Ns mainGlobals mg->FnOk P w K mg base CX k fa fd [x] sp) (hbind: ∀(s:Shared) (u:Value),BindsTo s fd ⟨[u],[]⟩ [(x,u)])
  (hsp: ∀H:Hp,zwh H->SqL K H a (ns.map V.int)->sp [.ref a] H (fun v _=>v= .bl true) fun _ _ _=>False)
  (hCX: ∀H e s',CX [] H s₁ (fun _ _ _=>False) e s'->False):
  codeAny (model P w) callerA (.call (.ref fa) ⟨[.ref a],[]⟩) (fun r s'=>r= .ok (.ret (.bool true))/\OldK s₁.heap s'.heap/\s'.os=s₁.os/\AllBare s'.gens) s₁:=by
 have rv:=zfC hi
 have lenV:=hi.length
 have core: ∀H:Hp,zwh H->SqL K H a (ns.map V.int)->HOk P w H s₁.heap->(∀b,H b≠none->b=a)->(H a≠none->K.lookup a=none)->
   codeAny (model P w) callerA (.call (.ref fa) ⟨[.ref a],[]⟩) (fun r s'=>r= .ok (.ret (.bool true))/\OldK s₁.heap s'.heap/\s'.os=s₁.os/\AllBare s'.gens) s₁:=by
  intro H hO hS hok hA hK
  have base_of: ∀{b:Addr} {o:Obj},s₁.heap.get? b=some o->H b=none->(zo0 s₁.heap H).get? b=some o:=fun e n=>zo1 e n
  have noA: ∀{b:Addr} {o:Obj} {es:Array DictEntry} {ep:Nat},s₁.heap.get? b=some o->o.data= .dict es ep->H b=none:=fun {b o es ep} e d=>by
   cases q:H b with
   |none=>rfl
   |some u=>
    have e':b=a:=hA b (by rw[q];simp)
    subst e'
    rw[ha] at e;cases e
    have d':Data.seq vs.toArray _=Data.dict es ep:=d
    cases d'
  have nsK: ∀{b:Addr} {m:Str->Option Value},s₁.heap.Ns b m->(zo0 s₁.heap H).Ns b m:=fun {b m} ⟨o,es,ep,e,d,r⟩=>⟨o,es,ep,base_of e (noA e d),d,r⟩
  have hKb:K.In (zo0 s₁.heap H):=fun b o e=>base_of (KX b o e) (by
   cases q:H b with
   |none=>rfl
   |some u=>
    have e':b=a:=hA b (by rw[q];simp)
    subst e'
    rw[hK (by rw[q];simp)] at e;cases e)
  have hM:Mod K mg (zo0 s₁.heap H):=⟨hKb,nsK hns,⟨mb,nsK hb,hbb⟩,let ⟨mc,h1,h2⟩:=hlim;⟨mc,nsK h1,h2⟩⟩
  have e0:Env0 P w K mg (zo0 s₁.heap H) callerA [] s₁ H:=⟨rfl,hM,fun b o e=>zrb e,Nat.le_of_eq (zmy _ _),trivial,fun b hb=>absurd (show b∈([]:List Addr) from hb) (by simp),hok,.of_eq hg⟩
  refine codeAny_mono ((F _ hKb (nsK hns)).run callerA [] s₁ H ⟨[.ref a],[]⟩ [.ref a] [.ref a] _ _ hr e0 (hbind s₁ (.ref a)) (.cons rfl .nil) (hsp H hO hS)) fun r s' h=>?_
  cases r with
  |error e=>exact (hCX H e s' h).elim
  |ok fl=>
   cases fl with
   |next=>exact False.elim h
   |brk=>exact False.elim h
   |cont=>exact False.elim h
   |ret u=>
    obtain⟨v,H',os,bare,un,hok',r',q⟩:=h
    have q':v= .bl true:=q
    subst q'
    obtain rfl:u=Value.bool true:=r'
    refine⟨rfl,OldK.of_keep fun b o e=>?_,os,bare⟩
    cases q:H b with
    |none=>exact un.keep b o e q (by intro z;exact absurd (show b∈([]:List Addr) from z) (by simp)) (by simp)
    |some u=>
     rcases hO b with z|⟨ob,xs,z⟩
     ·rw[q] at z;cases z
     ·have z2:=un.frzs b ob _ z
      obtain⟨e1,_⟩:=hok b _ z
      obtain⟨e2,_⟩:=hok' b _ z2
      rw[e] at e1;cases e1
      exact e2
 cases hk:K.lookup a with
 |some o=>
  have e:=KX a o hk
  rw[ha] at e
  cases e
  refine core (fun _=>none) (fun _=>.inl rfl) (.inr ⟨_,vs.toArray,_,hk,rfl,rfl,rfl,by rw[List.size_toArray,lenV];exact hl,by simpa using rv⟩) (fun b u z=>by have z':(none:Option HO)=some u:=z;cases z') (fun b z=>absurd rfl z) fun z=>absurd rfl z
 |none=>
  refine core (fun b=>if b=a then some (.frz { cls:=.type "list",data:=.seq vs.toArray } (.lst (ns.map V.int))) else none) (fun b=>?_) (.inl (.inr ⟨{ cls:=.type "list",data:=.seq vs.toArray },if_pos rfl⟩)) (fun b u z=>?_) (fun b z=>?_) fun _=>hk
  ·by_cases hb:b=a
   ·exact .inr ⟨_,_,if_pos hb⟩
   ·exact .inl (if_neg hb)
  ·by_cases hb:b=a
   ·have z':=(if_pos hb).symm.trans z
    cases z'
    subst hb
    exact⟨ha,by rw[List.length_map];exact hl,vs,_,rv,ha⟩
   ·have z':=(if_neg hb).symm.trans z
    cases z'
  ·by_cases hb:b=a
   ·exact hb
   ·exact absurd (if_neg hb) z
end L2
namespace L2
open PySem PySem.Spec PyProof.Rows
noncomputable abbrev KOf{K:PySem.W.Frag}{h:Heap}(_:K.In h):PySem.W.Frag:=K
theorem zrv{l:PySem.W.OpenLaw}{n k:Nat}{q:Program}{loose:List Str}{XP:(Str->Option Value)->Heap->Prop}{YP:World->Heap->Prop}{d:DefRec}{K:Params->PySem.W.Frag}{CX:World->CXT}{sp:World->Sp}{x:Str}
  (hn:l.most=some n) (hn2:n<=sizeLine) (hdf:d.params.defaults=[]) (hr:Room k callerA)
  (hY: ∀(w:World) (h:Heap),YP w h->(K w.params).In h)
  (F: ∀(w:World) (mg:Str->Option Value) (fa:Addr) (h:Heap),(K w.params).In h->h.Ns mainGlobals mg->mg d.name=some (.ref fa)->
   ∃fd:FuncData,(∀(s:Shared) (u:Value),BindsTo s fd ⟨[u],[]⟩ [(x,u)])/\
    ∀base:Heap,(K w.params).In base->base.Ns mainGlobals mg->FnOk l.prog w (K w.params) mg base (CX w) k fa fd [x] (sp w))
  (hsp: ∀(w:World) (H:Hp) (a:Addr) (ns:List Int),ns.length<=n->zwh H->SqL (K w.params) H a (ns.map V.int)->sp w [.ref a] H (fun v _=>v= .bl true) fun _ _ _=>False)
  (hCX: ∀(w:World) (H:Hp) (s:Shared) (e:Value) (s':Shared),CX w [] H s (fun _ _ _=>False) e s'->False):
  PySem.W.WalkO q loose XP YP l.row.toRowW d [] (fun f vs=>PySem.call f vs):=by
 refine Att.attach_call hn hdf fun w s₀ s₁ mg mb fa o pm cd doc a vs ns G Y ho hd hcd hmg hobj hints hlen hg=>?_
 have KX:=hY w _ Y
 obtain⟨fd,hb,hF⟩:=F w mg fa _ KX G.T.g hmg
 exact zpc KX G.T.g G.T.b G.T.builtins G.T.nolimit hg hobj hints (Nat.le_trans hlen hn2) hr hF hb (fun H hO hS=>hsp w H a ns hlen hO hS) fun H e s'=>hCX w H s₁ e s'
theorem zpd{l:PySem.W.OpenLaw}{n k:Nat}{q:Program}{loose:List Str}{XP:(Str->Option Value)->Heap->Prop}{YP:World->Heap->Prop}{d:DefRec}{K:Params->PySem.W.Frag}{CX:CXT}{sp:PySem.W.Frag->Sp}{x:Str}
  (hn:l.most=some n) (hn2:n<=sizeLine) (hdf:d.params.defaults=[]) (hr:Room k callerA)
  (hY: ∀(w:World) (h:Heap),YP w h->(K w.params).In h)
  (F: ∀(w:World) (mg:Str->Option Value) (fa:Addr) (h:Heap),(K w.params).In h->h.Ns mainGlobals mg->mg d.name=some (.ref fa)->
   ∃fd:FuncData,(∀(s:Shared) (u:Value),BindsTo s fd ⟨[u],[]⟩ [(x,u)])/\
    ∀base:Heap,(K w.params).In base->base.Ns mainGlobals mg->FnOk l.prog w (K w.params) mg base CX k fa fd [x] (sp (K w.params)))
  (hsp: ∀(K:PySem.W.Frag) (H:Hp) (a:Addr) (ns:List Int),ns.length<=n->zwh H->SqL K H a (ns.map V.int)->sp K [.ref a] H (fun v _=>v= .bl true) fun _ _ _=>False)
  (hCX: ∀(H:Hp) (s:Shared) (e:Value) (s':Shared),CX [] H s (fun _ _ _=>False) e s'->False):
  PySem.W.WalkO q loose XP YP l.row.toRowW d [] (fun f vs=>PySem.call f vs):=
 zrv (K:=K) (CX:=fun _=>CX) (sp:=fun w=>sp (K w.params)) hn hn2 hdf hr hY F (fun w H a ns h1 h2 h3=>hsp (K w.params) H a ns h1 h2 h3) fun _ H s e s'=>hCX H s e s'
end L2
namespace L2
open PySem PySem.Spec PyProof.Rows
noncomputable def zan(s:Stmt):Arguments:=match s with
 | .FunctionDef _ a _ _ _ _ _ _ _ _=>a
 |_=>{ posonlyargs:=[],args:=[],vararg:=none,kwonlyargs:=[],kw_defaults:=[],kwarg:=none,defaults:=[] }
noncomputable def zag(s:Stmt):List Stmt:=match s with
 | .FunctionDef _ _ b _ _ _ _ _ _ _=>b
 |_=>[]
noncomputable def zaa(s:Stmt):Scope:=match s with
 | .FunctionDef _ _ _ _ _ _ sc _ _ _=>sc
 |_=>{ kind:=.function,names:=[],isGenerator:=false,isCoroutine:=false }
noncomputable abbrev CX0:CXT:=fun _ _ _ _ _ _=>False
noncomputable abbrev E0:XK:=fun _ _ _=>False
theorem ztB{X:Cx}:zmK CX0 X E0:=fun _ _ _ _ _ _ _ h=>h.elim
structure Fun (K:PySem.W.Frag)(x qual:Str)(st:Stmt)(f:Addr)(fd:FuncData):Prop where
 ex: ∃(oc:Value) (od:Option Addr) (kV doc pm:Value) (an:Option Addr) (cdv ct:Value) (osl:Array (Option Value)),
  fd=PySem.W.fnOf x qual (zan st) (zag st) (zaa st) .none kV doc pm an cdv ct/\K.lookup f=some ⟨oc,od,.func fd,osl⟩/\PySem.W.codeIn K cdv qual=true
 kp:PySem.W.keepIn K (.ref f)=true
section
variable {P:Program} {w:World} {K:PySem.W.Frag} {mg:Str->Option Value} {base:Heap}
theorem Fun.ok{x qual:Str}{st:Stmt}{f:Addr}{fd:FuncData}{N ps:List Str}{k:Nat}{sp:Sp}(F:Fun K x qual st f fd)(S:FnScope N ps (zaa st))(len: ∀vs H Q E,sp vs H Q E->vs.length=ps.length)
  (hbody: ∀(cdv:Value) (A:Around) (outer:List Env) (s:Shared) (H:Hp) (vs:List V) (Q:VK) (E:XK),Room k (A.deeper (envOfC qual (zaa st) s.heap.objs.size f cdv))->sp vs H Q E->
   ∃t,PSs (zcR CX0 P w K mg base N qual (zaa st) f cdv A outer s H E).nox (zag st) t/\t { nx:=fun _ H'=>Q .non H',rt:=Q } (zdW N vs) H):FnOk P w K mg base CX0 (k+1) f fd ps sp:=by
 obtain⟨oc,od,kV,doc,pm,an,cdv,ct,osl,rfl,lk,hcd⟩:=F.ex
 refine zx4 lk hcd S len fun A outer s H vs Q E hr hsp=>?_
 obtain⟨t,h,q⟩:=hbody cdv A outer s H vs Q E hr hsp
 exact⟨t,h.nox,q⟩
theorem Fun.binds{x qual:Str}{st:Stmt}{f:Addr}{fd:FuncData}{ps:List Str}(F:Fun K x qual st f fd)
  (h: ∀(kV doc pm:Value) (an:Option Addr) (cdv ct:Value) (us:List Value),us.length=ps.length->bindArgs (PySem.W.fnOf x qual (zan st) (zag st) (zaa st) .none kV doc pm an cdv ct) ⟨us,[]⟩=pure (ps.zip us)):Binds K fd ps []:=by
 obtain⟨oc,od,kV,doc,pm,an,cdv,ct,osl,rfl,lk,hcd⟩:=F.ex
 exact .all (h kV doc pm an cdv ct)
theorem zaw{x qual:Str}{st:Stmt}{f:Addr}{oc:Value}{od an:Option Addr}{osl:Array (Option Value)}{kV doc pm cdv ct:Value}(l:K.lookup f=some ⟨oc,od,.func (PySem.W.fnOf x qual (zan st) (zag st) (zaa st) .none kV doc pm an cdv ct),osl⟩)
  (c:PySem.W.codeIn K cdv qual=true) (k:PySem.W.keepIn K (.ref f)=true):Fun K x qual st f (PySem.W.fnOf x qual (zan st) (zag st) (zaa st) .none kV doc pm an cdv ct):=⟨⟨oc,od,kV,doc,pm,an,cdv,ct,osl,rfl,l,c⟩,k⟩
end
theorem zcS{n:Nat}(h:n<=1000):n<sizeLine:=Nat.lt_of_le_of_lt h (by decide)
theorem zyb{A B:Prop}(h:B):if false=true then A else B:=by
 rw[if_neg Bool.false_ne_true]
 exact h
theorem zwi{A B:Prop}(h:A):if true=true then A else B:=by
 rw[if_pos rfl]
 exact h
noncomputable def Same(H H':Hp):Prop:=∀b o,H b=some o->H' b=some o
theorem Same.refl(H:Hp):Same H H:=fun _ _ h=>h
theorem Same.trans{H H1 H2:Hp}(a:Same H H1)(b:Same H1 H2):Same H H2:=fun c o h=>b c o (a c o h)
theorem Same.free{H H':Hp}(e:Same H H'){l:Addr}(h:H' l=Option.none):H l=Option.none:=by
 cases q:H l with
 |none=>rfl
 |some o=>
  rw[e l o q] at h
  cases h
theorem Same.seq{K:PySem.W.Frag}{H H':Hp}{a:Addr}{xs:List V}(e:Same H H')(h:SqL K H a xs):SqL K H' a xs:=by
 rcases h with (h|⟨o,h⟩)|h
 ·exact .inl (.inl (e _ _ h))
 ·exact .inl (.inr ⟨o,e _ _ h⟩)
 ·exact .inr h
end L2
namespace L2.LW
open PySem
set_option genSizeOf false
inductive D where
 |int (i:Int)|bl (b:Bool)|non|str (x:Str)|tup (l:List D)|lst (l:List D)
 |dct (t:Bool) (ks vs:List D)
mutual
noncomputable def eqD:D->D->Bool
 | .int a,.int b=>a==b
 | .bl a,.bl b=>a==b
 | .int a,.bl b=>a==(if b then 1 else 0)
 | .bl a,.int b=>(if a then 1 else 0)==b
 | .non,.non=>true
 | .str a,.str b=>a==b
 | .tup xs,.tup ys=>zgp xs ys
 | .lst xs,.lst ys=>zgp xs ys
 |_,_=>false
noncomputable def zgp:List D->List D->Bool
 |[],[]=>true
 |x::xs,y::ys=>eqD x y&&zgp xs ys
 |_,_=>false
end
mutual
noncomputable def plain:D->Bool
 | .lst _=>false
 | .dct _ _ _=>false
 | .tup l=>zbr l
 |_=>true
noncomputable def zbr:List D->Bool
 |[]=>true
 |x::xs=>plain x&&zbr xs
end
inductive SV where
 |val (d:D)|obj (o:Bool) (d:D)|io (d:D)
noncomputable abbrev SV.lis(o:Bool)(ds:List D):SV:=.obj o (.lst ds)
noncomputable def toD:SV->Option D
 | .val d=>some d
 | .obj true d=>some d
 |_=>none
noncomputable def zbH:SV->D
 | .val d=>d
 | .obj _ d=>d
 | .io d=>d
noncomputable def SV.lent:SV->Bool
 | .val _=>false
 | .obj true _=>false
 |_=>true
noncomputable def zbU:D->Bool
 | .lst ds=>zbr ds
 | .dct _ _ vs=>zbr vs
 |d=>plain d
noncomputable def SV.plain:SV->Bool
 | .val d=>LW.plain d
 | .obj _ d=>zbU d
 | .io _=>false
noncomputable abbrev Env:=List (Option SV)
inductive Ty where
 |bool|int|str|list|tuple
 deriving DecidableEq
inductive Prim where
 |add|sub|mul|fdiv|mod|neg|eq|ne|lt|le|gt|ge|isN|notN|inn|nin|idx|len|abs|min2|max2|sorted|sortP|skeys|nset|sset|cutT|cutF|addT|mulT|addS|join0|splitN|eqS|neS|toList|toTup|all|inst (t:Ty)|cutTo|maxL|minL|sumL|intOf
set_option genInjectivity false
mutual
inductive E where
 |int (i:Int)|bl (b:Bool)|non|str (x:Str)
 |var (i:Nat)
 |prim (p:Prim) (es:Es)
 |tup (es:Es)|lst (es:Es)
 |and (a b:E)|or (a b:E)|not (a:E)
 |chain (p q:Prim) (a b c:E)
 |ite (c a b:E)
 |call (f:Nat) (es:Es)
 |comp (rng:Bool) (src:Es) (cond elt:E)
 |dnew (t:Bool)|done (t:Bool) (k v:E)
inductive Es where
 |nil|cons (e:E) (es:Es)
end
set_option genInjectivity true
noncomputable def zfh:Ty->D->Bool
 | .bool,.bl _=>true
 | .int,.int _=>true
 | .int,.bl _=>true
 | .str,.str _=>true
 | .list,.lst _=>true
 | .tuple,.tup _=>true
 |_,_=>false
noncomputable def ints? :List D->Option (List Int)
 |[]=>some []
 | .int i::r=>(ints? r).map (i:: ·)
 |_=>none
noncomputable def lexLt:List Int->List Int->Bool
 |_,[]=>false
 |[],_::_=>true
 |x::xs,y::ys=>if x=y then lexLt xs ys else decide (x<y)
noncomputable def ixN(n:Nat)(i:Int):Option Nat:=if 0<=i then (if i<n then some i.toNat else none) else if -(n:Int)<=i then some (i+n).toNat else none
noncomputable def atI{α:Type}(xs:List α)(i:Int):Option α:=(ixN xs.length i).bind fun j=>xs[j]?
noncomputable def bools? :List D->Option (List Bool)
 |[]=>some []
 | .bl i::r=>(bools? r).map (i:: ·)
 |_=>none
noncomputable def line:Nat:=16777216
noncomputable def zgs:D->Option (List D)
 | .tup l=>some l
 | .lst l=>some l
 |_=>none
noncomputable def tups? :List D->Option (List (List Int))
 |[]=>some []
 | .tup l::r=>(ints? l).bind fun x=>(tups? r).map (x:: ·)
 |_=>none
noncomputable def zrw(x:List Int):List (List Int)->List (List Int)
 |[]=>[x]
 |y::r=>if lexLt x y then x::y::r else y::zrw x r
noncomputable def zey:List (List Int)->List (List Int)
 |[]=>[]
 |x::r=>zrw x (zey r)
noncomputable def zhj(l:List Int):List Int:=l.mergeSort (fun a b=>decide (a<=b))
noncomputable def zby:Nat->D->Bool
 |_,.int _=>true
 |_,.bl _=>true
 |_,.non=>true
 |_,.str _=>false
 |0,_=>false
 |n+1,.tup l=>l.all (zby n)
 |n+1,.lst l=>l.all (zby n)
 |_+1,.dct _ _ _=>false
noncomputable def zbW:Bool->D->Bool
 |false,.int _=>true
 |true,.tup l=>(ints? l).isSome
 |_,_=>false
noncomputable def kix(ks:List D)(k:D):Option Nat:=ks.findIdx? fun x=>eqD x k
noncomputable def zrx(ks vs:List D)(k:D):Option D:=(kix ks k).bind fun i=>vs[i]?
noncomputable def zkO(t:Bool)(ks vs:List D)(k v:D):D:=if (kix ks k).isSome then .dct t ks (List.zipWith (fun k' v'=>if eqD k' k then v else v') ks vs) else .dct t (ks++[k]) (vs++[v])
noncomputable def zb7(r:Int):Option SV:=some (.val (.int r))
noncomputable def zeR(r:Bool):Option SV:=some (.val (.bl r))
noncomputable def zwj:List D->Option SV
 |[.int a,.int b]=>zb7 (a+b)
 |[.lst a,.lst b]=>if a.length+b.length<=line then some (SV.obj true (.lst (a++b))) else none
 |_=>none
noncomputable def zyc:List D->Option SV
 |[.int a,.int b]=>zb7 (a-b)
 |_=>none
noncomputable def ztC:List D->Option SV
 |[.int a,.int b]=>if (-(2 ^ 64)<a/\a<2 ^ 64)\/(-(2 ^ 64)<b/\b<2 ^ 64) then zb7 (a*b) else none
 |_=>none
noncomputable def zpe:List D->Option SV
 |[.int a,.int b]=>if 0<b/\b<1073741824 then zb7 (a/b) else none
 |_=>none
noncomputable def zwk:List D->Option SV
 |[.int a,.int b]=>if 0<b then zb7 (a%b) else none
 |_=>none
noncomputable def zAL:List D->Option SV
 |[.int a]=>zb7 (-a)
 |_=>none
noncomputable def pEq:List D->Option SV
 |[a,b]=>if zby 8 a&&zby 8 b then zeR (eqD a b) else none
 |_=>none
noncomputable def pNe:List D->Option SV
 |[a,b]=>if zby 8 a&&zby 8 b then zeR (!eqD a b) else none
 |_=>none
noncomputable def pLt:List D->Option SV
 |[.int a,.int b]=>zeR (decide (a<b))
 |[.tup a,.tup b]=>(ints? a).bind fun x=>(ints? b).bind fun y=>zeR (lexLt x y)
 |_=>none
noncomputable def pLe:List D->Option SV
 |[.int a,.int b]=>zeR (decide (a<=b))
 |_=>none
noncomputable def pGt:List D->Option SV
 |[.int a,.int b]=>zeR (decide (b<a))
 |_=>none
noncomputable def pGe:List D->Option SV
 |[.int a,.int b]=>zeR (decide (b<=a))
 |[.tup a,.tup b]=>(ints? a).bind fun x=>(ints? b).bind fun y=>zeR (!lexLt x y)
 |_=>none
noncomputable def ziD:D->Bool
 | .non=>true
 |_=>false
noncomputable def zzK:List D->Option SV
 |[d]=>zeR (ziD d)
 |_=>none
noncomputable def ztD:List D->Option SV
 |[d]=>zeR (!ziD d)
 |_=>none
noncomputable def pIn:List D->Option SV
 |[x,.dct t ks _]=>if zbW t x then zeR (kix ks x).isSome else none
 |[x,.tup l]=>if zby 8 x&&l.all (zby 8) then zeR (l.any fun y=>eqD y x) else none
 |[x,.lst l]=>if zby 8 x&&l.all (zby 8) then zeR (l.any fun y=>eqD y x) else none
 |_=>none
noncomputable def zry:List D->Option SV
 |[x,.dct t ks _]=>if zbW t x then zeR (!(kix ks x).isSome) else none
 |[x,.tup l]=>if zby 8 x&&l.all (zby 8) then zeR (!l.any fun y=>eqD y x) else none
 |[x,.lst l]=>if zby 8 x&&l.all (zby 8) then zeR (!l.any fun y=>eqD y x) else none
 |_=>none
noncomputable def zwl:List D->Option SV
 |[.dct t ks vs,k]=>if zbW t k then (zrx ks vs k).map .val else none
 |[.tup l,.int i]=>(atI l i).map .val
 |[.lst l,.int i]=>(atI l i).map .val
 |_=>none
noncomputable def zyd:List D->Option SV
 |[.tup l]=>zb7 l.length
 |[.lst l]=>zb7 l.length
 |_=>none
noncomputable def zye:List D->Option SV
 |[.int i]=>zb7 (if i<0 then -i else i)
 |_=>none
noncomputable def zrz:List D->Option SV
 |[.int i,.int j]=>zb7 (if j<i then j else i)
 |_=>none
noncomputable def zrA:List D->Option SV
 |[.int i,.int j]=>zb7 (if j>i then j else i)
 |_=>none
noncomputable def zfD(l:List D):Option SV:=match ints? l with
 |some ns=>if ns.length<64 then some (.obj true (.lst ((zhj ns).map .int))) else none
 |none=>(tups? l).bind fun ks=>if ks.length<64/\ks.Nodup/\ks.all (fun k=> !k.isEmpty)=true then some (.obj true (.lst ((zey ks).map fun k=>.tup (k.map .int)))) else none
noncomputable def zhk:List D->Option SV
 |[.lst l]=>zfD l
 |_=>none
noncomputable def zj4(l:List D):Option SV:=(tups? l).bind fun ks=>if ks.length<64/\ks.Nodup/\ks.all (fun k=> !k.isEmpty)=true then some (.obj true (.lst ((zey ks).map fun k=>.tup (k.map .int)))) else none
noncomputable def ztE:List D->Option SV
 |[.dct true ks _]=>zj4 ks
 |_=>none
noncomputable def zyf:List D->Option SV
 |[.tup l,.int k]=>if 0<=k/\k<l.length then some (.val (.tup (l.take k.toNat))) else none
 |_=>none
noncomputable def zyg:List D->Option SV
 |[.tup l,.int k]=>if 0<k/\0<l.length then some (.val (.tup (l.drop k.toNat))) else none
 |_=>none
noncomputable def zyh:List D->Option SV
 |[.tup a,.tup b]=>if a.length+b.length<=10000000 then some (.val (.tup (a++b))) else none
 |_=>none
noncomputable def zyi:List D->Option SV
 |[.tup l,.int k]=>if k=2/\l.length<=1000/\l≠[] then some (.val (.tup (l++l))) else none
 |_=>none
noncomputable def zyj:List D->Option SV
 |[.str a,.str b]=>if a.length+b.length<=10000000 then some (.val (.str (a++b))) else none
 |_=>none
noncomputable def strs? :List D->Option (List Str)
 |[]=>some []
 | .str x::r=>(strs? r).map (x:: ·)
 |_=>none
noncomputable def zyk(ys:List Str):Str:=⟨(ys.flatMap fun y=>y.cps.toList).toArray⟩
noncomputable def ztF:List D->Option SV
 |[.lst l]=>(strs? l).bind fun ys=>if (ys.map (·.length)).sum<=10000000 then some (.val (.str (zyk ys))) else none
 |_=>none
noncomputable def zyl(c:Nat):List Nat->List (List Nat)
 |[]=>[[]]
 |a::r=>if a=c then []::zyl c r else match zyl c r with
  |p::ps=>(a::p)::ps
  |[]=>[[a]]
noncomputable def ztG(x:Str):List Str:=(zyl 10 x.cps.toList).map fun l=>⟨l.toArray⟩
noncomputable def zrB:List D->Option SV
 |[.str x]=>if x.length<=10000000 then some (.obj true (.lst ((ztG x).map D.str))) else none
 |_=>none
noncomputable def ztH(x:Str):List D:=x.cps.toList.map fun c=>D.str ⟨#[c]⟩
noncomputable def zwm:List D->Option SV
 |[.str a,.str b]=>some (.val (.bl (decide (a=b))))
 |_=>none
noncomputable def zwn:List D->Option SV
 |[.str a,.str b]=>some (.val (.bl (!decide (a=b))))
 |_=>none
noncomputable def zj5:List D->Option SV
 |[.tup l]=>some (SV.obj true (.lst l))
 |[.lst l]=>some (SV.obj true (.lst l))
 |_=>none
noncomputable def zmW:List D->Option SV
 |[.tup l]=>some (.val (.tup l))
 |[.lst l]=>some (.val (.tup l))
 |_=>none
noncomputable def zwo:List D->Option SV
 |[.lst l]=>(bools? l).bind fun bs=>zeR (bs.all id)
 |_=>none
noncomputable def ztI(t:Ty):List D->Option SV
 |[d]=>zeR (zfh t d)
 |_=>none
noncomputable def zkP:List D->Option SV
 |[.lst l,.int k]=>if 0<=k then some (SV.obj true (.lst (l.take k.toNat))) else none
 |_=>none
noncomputable def zpf:List D->Option SV
 |[.lst l]=>(ints? l).bind fun ns=>match ns with
  |[]=>none
  |n::r=>zb7 (r.foldl max n)
 |_=>none
noncomputable def zym:List D->Option SV
 |[.lst l]=>(ints? l).bind fun ns=>match ns with
  |[]=>none
  |n::r=>zb7 (r.foldl min n)
 |_=>none
noncomputable def zyn:List D->Option SV
 |[.lst l]=>(ints? l).bind fun ns=>zb7 ns.sum
 |[.tup l]=>(ints? l).bind fun ns=>zb7 ns.sum
 |_=>none
noncomputable def ztJ:List D->Option SV
 |[.int i]=>zb7 i
 |[.bl b]=>zb7 (if b then 1 else 0)
 |_=>none
noncomputable def prs? :List D->Option (List (List Int))
 |[]=>some []
 | .tup [.tup [.int a,.int b],.tup [.int c,.int d]]::r=>(prs? r).map ([a,b,c,d]:: ·)
 |_::_=>none
noncomputable def zgQ:List Int->D
 |[a,b,c,d]=>.tup [.tup [.int a,.int b],.tup [.int c,.int d]]
 |_=>.non
noncomputable def ziE:List D->Option SV
 |[.lst l]=>(prs? l).bind fun ks=>if ks.length<64/\ks.Nodup then some (.obj true (.lst ((zey ks).map zgQ))) else none
 |_=>none
noncomputable def zrC:D->Option (Int×Int)
 | .tup [.int a,.int b]=>if 0<=a/\a<=7/\0<=b/\b<=7 then some (a,b) else none
 |_=>none
noncomputable def zeS:List D->Option (List (Int×Int))
 |[]=>some []
 |d::r=>(zrC d).bind fun c=>(zeS r).map (c:: ·)
noncomputable def nub{α:Type}[DecidableEq α]:List α->List α
 |[]=>[]
 |c::r=>if c∈r then nub r else c::nub r
noncomputable def zlR:List D->Option (List Int)
 |[]=>some []
 | .int i::r=>(zlR r).map (i:: ·)
 |_::_=>none
noncomputable def zj6:List D->Option SV
 |[.lst ds]=>match zeS ds with
  |some cs=>some (.val (.int (nub cs).length))
  |none=>(zlR ds).bind fun is=>if is.length<=1000 then some (.val (.int (nub is).length)) else none
 |_=>none
noncomputable def zyo:List D->Option SV
 |[.lst ds]=>(zeS ds).bind fun cs=>if (nub cs).length<64 then some (.obj true (.lst ((zey ((nub cs).map fun c=>[c.1,c.2])).map fun k=>.tup (k.map .int)))) else none
 |_=>none
noncomputable def zai:Prim->List D->Option SV
 | .add=>zwj| .sub=>zyc| .mul=>ztC| .fdiv=>zpe| .mod=>zwk| .neg=>zAL| .eq=>pEq| .ne=>pNe| .lt=>pLt| .le=>pLe| .gt=>pGt| .ge=>pGe
 | .isN=>zzK| .notN=>ztD| .inn=>pIn| .nin=>zry| .idx=>zwl| .len=>zyd| .abs=>zye| .min2=>zrz| .max2=>zrA
 | .sorted=>zhk| .sortP=>ziE| .skeys=>ztE| .nset=>zj6| .sset=>zyo| .cutT=>zyf| .cutF=>zyg| .addT=>zyh| .mulT=>zyi| .addS=>zyj| .join0=>ztF| .splitN=>zrB| .eqS=>zwm| .neS=>zwn| .toList=>zj5| .toTup=>zmW| .all=>zwo| .inst t=>ztI t| .cutTo=>zkP| .maxL=>zpf| .minL=>zym| .sumL=>zyn| .intOf=>ztJ
noncomputable def zbw:SV->Option Bool
 | .val (.bl b)=>some b
 | .val (.int i)=>some (i != 0)
 | .val .non=>some false
 | .val (.tup l)=>some (!l.isEmpty)
 | .val (.lst l)=>some (!l.isEmpty)
 | .obj _ (.lst l)=>some (!l.isEmpty)
 |_=>none
noncomputable def look(ρ:Env)(i:Nat):Option SV:=match ρ[i]? with
 |some (some (.val d))=>some (.val d)
 |some (some (.obj _ d))=>some (.obj false d)
 |some (some (.io d))=>some (.obj false d)
 |_=>none
noncomputable def free(ρ:Env)(i:Nat):Bool:=match ρ[i]? with
 |some (some (.io _))=>false
 |_=>true
noncomputable def SV.cell:SV->Option D
 | .obj true d=>some d
 | .io d=>some d
 |_=>none
noncomputable def SV.put:SV->D->SV
 | .io _,d=>.io d
 |_,d=>.obj true d
noncomputable def inR(j:Int):Prop:= -(2 ^ 62)<=j/\j<2 ^ 62
noncomputable instance (j:Int):Decidable (inR j):=by unfold inR;exact inferInstance
noncomputable def zaI:Bool->List SV->Option (List D)
 |false,[r]=>zgs (zbH r)
 |true,[.val (.int n)]=>if inR n then some ((List.range n.toNat).map fun (k:Nat)=>D.int (0+(k:Int))) else none
 |true,[.val (.int a),.val (.int b)]=>if inR a/\inR b then some ((List.range (b-a).toNat).map fun (k:Nat)=>D.int (a+(k:Int))) else none
 |_,_=>none
noncomputable def zdG(test:D->Option Bool)(elt:D->Option SV):List D->Option (List D)
 |[]=>some []
 |d::r=>(test d).bind fun b=>match b with
  |true=>(elt d).bind fun x=>(toD x).bind fun y=>(zdG test elt r).map (y:: ·)
  |false=>zdG test elt r
noncomputable def zez(rs:List SV)(r:Option SV):Option SV:=r.bind fun x=>if rs.any SV.lent&& !x.plain then none else some x
noncomputable def ziF:List SV->Option (List D)
 |[]=>some []
 |r::rs=>(toD r).bind fun d=>(ziF rs).map (d:: ·)
mutual
noncomputable def evE(fn:Nat->List D->Option SV):E->Env->Option SV
 | .int i,_=>some (.val (.int i))
 | .bl b,_=>some (.val (.bl b))
 | .non,_=>some (.val .non)
 | .str x,_=>some (.val (.str x))
 | .var i,ρ=>look ρ i
 | .prim p es,ρ=>(zcx fn es ρ).bind fun rs=>zai p (rs.map zbH)
 | .tup es,ρ=>(zcx fn es ρ).bind fun rs=>(ziF rs).map fun ds=>.val (.tup ds)
 | .lst es,ρ=>(zcx fn es ρ).bind fun rs=>(ziF rs).map fun ds=>SV.obj true (.lst ds)
 | .and a b,ρ=>(evE fn a ρ).bind fun r=>match r with
  | .val (.bl true)=>evE fn b ρ
  | .val (.bl false)=>some (.val (.bl false))
  |_=>none
 | .or a b,ρ=>(evE fn a ρ).bind fun r=>match r with
  | .val (.bl true)=>some (.val (.bl true))
  | .val (.bl false)=>evE fn b ρ
  |_=>none
 | .not a,ρ=>(evE fn a ρ).bind fun r=>match r with
  | .val (.bl b)=>some (.val (.bl (!b)))
  |_=>none
 | .chain p q a b c,ρ=>(evE fn a ρ).bind fun x=>(evE fn b ρ).bind fun y=>(zai p [zbH x,zbH y]).bind fun z=>match z with
  | .val (.bl true)=>(evE fn c ρ).bind fun w=>zai q [zbH y,zbH w]
  | .val (.bl false)=>some (.val (.bl false))
  |_=>none
 | .ite c a b,ρ=>(evT fn c ρ).bind fun k=>if k then evE fn a ρ else evE fn b ρ
 | .call f es,ρ=>(zcx fn es ρ).bind fun rs=>zez rs (fn f (rs.map zbH))
 | .dnew t,_=>some (.obj true (.dct t [] []))
 | .done t k v,ρ=>(evE fn k ρ).bind fun x=>(evE fn v ρ).bind fun y=>(toD x).bind fun a=>(toD y).bind fun b=>if zbW t a then some (.obj true (.dct t [a] [b])) else none
 | .comp rng src cond elt,ρ=>(zcx fn src ρ).bind fun rs=>(zaI rng rs).bind fun ds=>
  if ds.length<=line then (zdG (fun d=>evT fn cond (some (.val d)::ρ)) (fun d=>evE fn elt (some (.val d)::ρ)) ds).map fun l=>SV.obj true (.lst l) else none
noncomputable def zcx(fn:Nat->List D->Option SV):Es->Env->Option (List SV)
 | .nil,_=>some []
 | .cons e es,ρ=>(evE fn e ρ).bind fun r=>(zcx fn es ρ).map (r:: ·)
noncomputable def evT(fn:Nat->List D->Option SV):E->Env->Option Bool
 | .and a b,ρ=>(evT fn a ρ).bind fun k=>if k then evT fn b ρ else some false
 | .or a b,ρ=>(evT fn a ρ).bind fun k=>if k then some true else evT fn b ρ
 | .not a,ρ=>(evT fn a ρ).map (!·)
 | .int i,_=>some (i != 0)
 | .bl b,_=>some b
 | .non,_=>some false
 | .str _,_=>none
 | .var i,ρ=>(look ρ i).bind zbw
 | .prim p es,ρ=>(zcx fn es ρ).bind fun rs=>(zai p (rs.map zbH)).bind zbw
 | .tup _,_=>none
 | .lst _,_=>none
 | .chain p q a b c,ρ=>(evE fn a ρ).bind fun x=>(evE fn b ρ).bind fun y=>(zai p [zbH x,zbH y]).bind fun z=>match z with
  | .val (.bl true)=>(evE fn c ρ).bind fun w=>(zai q [zbH y,zbH w]).bind zbw
  | .val (.bl false)=>some false
  |_=>none
 | .ite _ _ _,_=>none
 | .call f es,ρ=>(zcx fn es ρ).bind fun rs=>(zez rs (fn f (rs.map zbH))).bind zbw
 | .comp rng src cond elt,ρ=>(zcx fn src ρ).bind fun rs=>(zaI rng rs).bind fun ds=>
  if ds.length<=line then (zdG (fun d=>evT fn cond (some (.val d)::ρ)) (fun d=>evE fn elt (some (.val d)::ρ)) ds).map fun l=> !l.isEmpty else none
 | .dnew _,_=>none
 | .done _ _ _,_=>none
end
inductive Ans where
 |ok (r:SV) (outs:List D)
 |ex (c:Nat)
noncomputable def prj(fa:Nat->List D->Option Ans)(f:Nat)(ds:List D):Option SV:=match fa f ds with
 |some (.ok r [])=>some r
 |_=>none
set_option genInjectivity false
inductive MA where
 |nil|e (c:E) (r:MA)|s (i:Nat) (r:MA)|n (t:Bool) (r:MA)
inductive AV where
 |e (d:D)|l (ds:List D)|s (i:Nat) (d:D)|n (t:Bool)
inductive M where
 |call (f:Nat) (ma:MA)
 |op (p:Prim) (a:E) (m:M)
set_option genInjectivity true
noncomputable def zgt:D->Bool
 | .dct _ _ vs=>zbr vs
 |_=>false
noncomputable def SV.fine:SV->Bool
 | .val d=>LW.plain d
 | .obj true d=>zbU d
 |_=>false
noncomputable def zkQ:SV->Option AV
 | .val (.lst ds)=>if zbr ds then some (.l ds) else none
 | .val d=>if plain d then some (.e d) else none
 | .obj _ (.lst ds)=>if zbr ds then some (.l ds) else none
 |_=>none
noncomputable def zdH(ρ:Env)(i:Nat):Option D:=match ρ[i]? with
 |some (some x)=>x.cell
 |_=>none
noncomputable def zgq(fn:Nat->List D->Option SV):MA->Env->Option (List AV)
 | .nil,_=>some []
 | .e c r,ρ=>(evE fn c ρ).bind fun x=>(zkQ x).bind fun a=>(zgq fn r ρ).map (a:: ·)
 | .s i r,ρ=>(zdH ρ i).bind fun d=>if zgt d then (zgq fn r ρ).map (.s i d:: ·) else none
 | .n t r,ρ=>(zgq fn r ρ).map (.n t:: ·)
noncomputable def zqt:AV->D
 | .e d=>d
 | .l ds=>.lst ds
 | .s _ d=>d
 | .n t=>.dct t [] []
noncomputable def zsM(ρ:Env)(i:Nat)(d:D):Env:=match ρ[i]? with
 |some (some x)=>ρ.set i (some (x.put d))
 |_=>ρ
noncomputable def zfE(ρ:Env):List AV->List D->Option Env
 |[],[]=>some ρ
 | .s i _::r,d::ds=>zfE (zsM ρ i d) r ds
 | .n _::r,_::ds=>zfE ρ r ds
 | .e _::r,ds=>zfE ρ r ds
 | .l _::r,ds=>zfE ρ r ds
 |_,_=>none
noncomputable def evM(fa:Nat->List D->Option Ans):M->Env->Option (SV×Env)
 | .call f ma,ρ=>(zgq (prj fa) ma ρ).bind fun xs=>(fa f (xs.map zqt)).bind fun a=>match a with
  | .ok r outs=>if r.fine&&outs.all zbU then (zfE ρ xs outs).map fun ρ'=>(r,ρ') else none
  | .ex _=>none
 | .op p a m,ρ=>(evE (prj fa) a ρ).bind fun x=>match x with
  | .val d=>if plain d then (evM fa m ρ).bind fun y=>(zai p [d,zbH y.1]).map fun z=>(z,y.2) else none
  |_=>none
set_option genInjectivity false
mutual
inductive S where
 |expr (e:E)|asg (i:Nat) (e:E)|mov (i j:Nat)|app (i:Nat) (e:E)|dset (i:Nat) (k v:E)|dupd (i j:Nat)|unp3 (i j k:Nat) (e:E)|exprM (m:M)|asgM (i:Nat) (m:M)|ifO (c:E) (m:M) (a b:Ss)|ret (e:E)|retV (i:Nat)|retN
 |ifs (c:E) (a b:Ss)|for_ (i:Nat) (rng:Bool) (src:Es) (body:Ss)|forV (i j:Nat) (body:Ss)|forU (i j:Nat) (rng:Bool) (src:Es) (body:Ss)|forE (i j:Nat) (src:E) (body:Ss)|while_ (c:E) (body:Ss)|frz (js:List Nat) (s:S)|brk|cnt|pass|stop
inductive Ss where
 |nil|cons (s:S) (ss:Ss)
end
set_option genInjectivity true
inductive Fl where
 |nx|br|ct|rt (r:SV)
noncomputable def zeA(i:Nat)(body:Env->Option (Fl×Env)):List D->Env->Option (Fl×Env)
 |[],ρ=>some (.nx,ρ)
 |d::r,ρ=>(body (ρ.set i (some (.val d)))).bind fun x=>match x.1 with
  | .nx=>zeA i body r x.2
  | .ct=>zeA i body r x.2
  | .br=>some (.nx,x.2)
  | .rt v=>some (.rt v,x.2)
noncomputable def ztK:D->Bool
 | .tup [.int a,.int b]=>decide (0<=a/\a<=7/\0<=b/\b<=7)
 |_=>false
noncomputable def zmX(ks vs:List D):List D->List D->List D×List D
 |k::ks2,v::vs2=>match zkO true ks vs k v with
  | .dct _ a b=>zmX a b ks2 vs2
  |_=>(ks,vs)
 |_,_=>(ks,vs)
noncomputable def zyp(ρ:Env)(i:Nat)(x:SV):Option D->Option D->Option (Fl×Env)
 |some (.dct true ks vs),some (.dct true ks2 vs2)=>if ks2.all ztK&&decide (ks.length+ks2.length<line) then some (.nx,ρ.set i (some (x.put (.dct true (zmX ks vs ks2 vs2).1 (zmX ks vs ks2 vs2).2)))) else none
 |_,_=>none
noncomputable def ztL(ρ:Env)(i j:Nat):Option (Fl×Env):=if i=j then none else match ρ[i]? with
 |some (some x)=>zyp ρ i x x.cell (zdH ρ j)
 |_=>none
noncomputable def ztM(ρ:Env)(i j k:Nat):SV->Option (Fl×Env)
 | .obj true (.lst [a,b,c])=>if free ρ i&&free ρ j&&free ρ k then some (.nx,((ρ.set i (some (.val a))).set j (some (.val b))).set k (some (.val c))) else none
 |_=>none
noncomputable def zmY:Nat->List D->List D
 |_,[]=>[]
 |k,d::r=>.tup [.int k,d]::zmY (k+1) r
noncomputable def zyq:SV->Option (List D)
 | .obj true (.lst l)=>some (zmY 0 l)
 | .val (.str x)=>some (zmY 0 (ztH x))
 |_=>none
noncomputable def zpg(i j:Nat)(body:Env->Option (Fl×Env)):List D->Env->Option (Fl×Env)
 |[],ρ=>some (.nx,ρ)
 | .tup [a,b]::r,ρ=>(body ((ρ.set i (some (.val a))).set j (some (.val b)))).bind fun x=>match x.1 with
  | .nx=>zpg i j body r x.2
  | .ct=>zpg i j body r x.2
  | .br=>some (.nx,x.2)
  | .rt v=>some (.rt v,x.2)
 |_,_=>none
noncomputable def zcM(test:Env->Option Bool)(body:Env->Option (Fl×Env)):Nat->Env->Option (Fl×Env)
 |0,_=>none
 |n+1,ρ=>(test ρ).bind fun b=>if b then (body ρ).bind fun x=>(match x.1 with
  | .nx=>zcM test body n x.2
  | .ct=>zcM test body n x.2
  | .br=>some (.nx,x.2)
  | .rt v=>some (.rt v,x.2)) else some (.nx,ρ)
noncomputable def zgR(ρ:Env)(j:Nat):Option (List D×Env):=match ρ[j]? with
 |some (some (.val d))=>(zgs d).map fun l=>(l,ρ)
 |some (some (.obj _ (.lst ds)))=>some (ds,ρ.set j (some (.val (.lst ds))))
 |_=>none
noncomputable def zqu(ρ:Env)(j:Nat):Env:=match ρ[j]? with
 |some (some (.obj true d))=>ρ.set j (some (.val d))
 |_=>ρ
mutual
noncomputable def exS(fa:Nat->List D->Option Ans)(fuel:Nat):S->Env->Option (Fl×Env)
 | .expr e,ρ=>(evE (prj fa) e ρ).map fun _=>(.nx,ρ)
 | .asg i e,ρ=>(evE (prj fa) e ρ).bind fun r=>if r.lent|| !free ρ i then none else some (.nx,ρ.set i (some r))
 | .mov i j,ρ=>if free ρ i then (match ρ[j]? with
  |some (some (.val d))=>some (.nx,ρ.set i (some (.val d)))
  |some (some (.obj _ d))=>some (.nx,(ρ.set j (some (.val d))).set i (some (.val d)))
  |_=>none) else none
 | .app i e,ρ=>match ρ[i]? with
  |some (some x)=>(match x.cell with
   |some (.lst ds)=>(evE (prj fa) e ρ).bind fun r=>(toD r).bind fun d=>if ds.length<line then some (.nx,ρ.set i (some (x.put (.lst (ds++[d]))))) else none
   |_=>none)
  |_=>none
 | .dupd i j,ρ=>ztL ρ i j
 | .unp3 i j k e,ρ=>(evE (prj fa) e ρ).bind (ztM ρ i j k)
 | .dset i k v,ρ=>match ρ[i]? with
  |some (some x)=>(match x.cell with
   |some (.dct t ks vs)=>(evE (prj fa) v ρ).bind fun r=>(toD r).bind fun d=>(evE (prj fa) k ρ).bind fun r=>(toD r).bind fun a=>if zbW t a&&decide (ks.length<line) then some (.nx,ρ.set i (some (x.put (zkO t ks vs a d)))) else none
   |_=>none)
  |_=>none
 | .exprM m,ρ=>(evM fa m ρ).map fun x=>(.nx,x.2)
 | .asgM i m,ρ=>(evM fa m ρ).bind fun x=>if x.1.lent|| !free x.2 i then none else some (.nx,x.2.set i (some (.val (zbH x.1))))
 | .ifO c m a b,ρ=>(evT (prj fa) c ρ).bind fun k=>if k then zaR fa fuel a ρ else (evM fa m ρ).bind fun x=>(zbw x.1).bind fun k=>if k then zaR fa fuel a x.2 else zaR fa fuel b x.2
 | .ret e,ρ=>(evE (prj fa) e ρ).bind fun r=>if r.lent then none else some (.rt r,ρ)
 | .retV i,ρ=>match ρ[i]? with
  |some (some (.val d))=>some (.rt (.val d),ρ)
  |some (some (.obj _ d))=>some (.rt (.obj true d),ρ.set i none)
  |_=>none
 | .retN,ρ=>some (.rt (.val .non),ρ)
 | .ifs c a b,ρ=>(evT (prj fa) c ρ).bind fun k=>if k then zaR fa fuel a ρ else zaR fa fuel b ρ
 | .for_ i rng src body,ρ=>(zcx (prj fa) src ρ).bind fun rs=>if rs.any SV.lent|| !free ρ i then none else (zaI rng rs).bind fun ds=>zeA i (zaR fa fuel body) ds ρ
 | .forV i j body,ρ=>if free ρ i then (zgR ρ j).bind fun x=>zeA i (zaR fa fuel body) x.1 x.2 else none
 | .forU i j rng src body,ρ=>(zcx (prj fa) src ρ).bind fun rs=>if rs.any SV.lent|| !free ρ i|| !free ρ j then none else (zaI rng rs).bind fun ds=>zpg i j (zaR fa fuel body) ds ρ
 | .forE i j src body,ρ=>(evE (prj fa) src ρ).bind fun r=>if !free ρ i|| !free ρ j then none else (zyq r).bind fun ds=>zpg i j (zaR fa fuel body) ds ρ
 | .while_ c body,ρ=>zcM (evT (prj fa) c) (zaR fa fuel body) fuel ρ
 | .frz js s,ρ=>exS fa fuel s (js.foldl zqu ρ)
 | .brk,ρ=>some (.br,ρ)
 | .cnt,ρ=>some (.ct,ρ)
 | .pass,ρ=>some (.nx,ρ)
 | .stop,_=>none
noncomputable def zaR(fa:Nat->List D->Option Ans)(fuel:Nat):Ss->Env->Option (Fl×Env)
 | .nil,ρ=>some (.nx,ρ)
 | .cons s ss,ρ=>(exS fa fuel s ρ).bind fun x=>match x.1 with
  | .nx=>zaR fa fuel ss x.2
  |_=>some x
end
inductive Hd where
 |ret (ks:List Nat)|two (i n:Nat) (ks ks2:List Nat)
mutual
inductive T where
 |pl (s:S)|raise (c:Nat)|raiseF (c k:Nat)|callX (i:Nat) (es:Es)|retX (i:Nat) (es:Es)|asgX (k i:Nat) (es:Es)|ifX (neg:Bool) (i:Nat) (es:Es) (a b:Ts)|ifs (c:E) (a b:Ts)|tryX (b:Ts) (k:Nat) (cs:List Nat) (h:Hd)|stuck
inductive Ts where
 |nil|cons (t:T) (ts:Ts)
end
inductive FlX where
 |fl (f:Fl)|ex (c:Nat)
noncomputable def zAM(c k:Nat):Bool:=k==c||k==0||k==7
noncomputable def zoW(fa:Nat->List D->Option Ans)(i:Nat)(es:Es)(ρ:Env):Option Ans:=(zcx (prj fa) es ρ).bind fun rs=>if rs.any SV.lent then none else fa i (rs.map zbH)
noncomputable def zAN:Option SV->Bool
 |some (.io _)=>false
 |_=>true
noncomputable def hdX(c:Nat)(ρ:Env):Hd->Option (FlX×Env)
 | .ret ks=>if ks.all (zAM c) then some (.fl (.rt (.obj true (.lst (ks.map fun _=>.bl true)))),ρ) else none
 | .two i n ks ks2=>if ρ.all zAN then some (.fl .nx,(List.replicate n none).set i (some (.obj true (.lst ((ks++ks2).map fun x=>.bl (x==c)))))) else none
mutual
noncomputable def exT(fa:Nat->List D->Option Ans)(fuel:Nat):T->Env->Option (FlX×Env)
 | .pl s,ρ=>(exS fa fuel s ρ).map fun x=>(.fl x.1,x.2)
 | .raise c,ρ=>some (.ex c,ρ)
 | .raiseF c k,ρ=>match look ρ k with
  |some (.val (.int i))=>if 0<=i/\i<1000 then some (.ex c,ρ) else none
  |_=>none
 | .callX i es,ρ=>(zoW fa i es ρ).bind fun a=>match a with
  | .ok _ []=>some (.fl .nx,ρ)
  | .ex c=>some (.ex c,ρ)
  |_=>none
 | .retX i es,ρ=>(zoW fa i es ρ).bind fun a=>match a with
  | .ok r []=>if r.lent then none else some (.fl (.rt r),ρ)
  | .ex c=>some (.ex c,ρ)
  |_=>none
 | .asgX k i es,ρ=>(zoW fa i es ρ).bind fun a=>match a with
  | .ok r []=>if r.lent|| !free ρ k then none else some (.fl .nx,ρ.set k (some r))
  | .ex c=>some (.ex c,ρ)
  |_=>none
 | .ifX neg i es a b,ρ=>(zoW fa i es ρ).bind fun x=>match x with
  | .ok (.val (.bl k)) []=>if k != neg then ziG fa fuel a ρ else ziG fa fuel b ρ
  | .ex c=>some (.ex c,ρ)
  |_=>none
 | .ifs c a b,ρ=>(evT (prj fa) c ρ).bind fun k=>if k then ziG fa fuel a ρ else ziG fa fuel b ρ
 | .tryX b k cs h,ρ=>(ziG fa fuel b ρ).bind fun x=>match x.1 with
  | .fl _=>some x
  | .ex c=>if cs.contains c then hdX c x.2 h else none
 | .stuck,_=>none
noncomputable def ziG(fa:Nat->List D->Option Ans)(fuel:Nat):Ts->Env->Option (FlX×Env)
 | .nil,ρ=>some (.fl .nx,ρ)
 | .cons t ts,ρ=>(exT fa fuel t ρ).bind fun x=>match x.1 with
  | .fl .nx=>ziG fa fuel ts x.2
  |_=>some x
end
structure Fn where
 np:Nat
 nl:Nat
 body:Ss
 io:List Nat:=[]
 xb:Option Ts:=none
noncomputable def zwp:Option (FlX×Env)->Option Ans
 |some (.fl (.rt r),_)=>some (.ok r [])
 |some (.fl .nx,_)=>some (.ok (.val .non) [])
 |some (.ex c,_)=>some (.ex c)
 |_=>none
noncomputable def zcy(ρ:Env):List Nat->Option (List D)
 |[]=>some []
 |i::r=>match ρ[i]? with
  |some (some (.io d))=>(zcy ρ r).map (d:: ·)
  |_=>none
noncomputable def zoX(io:List Nat):Option (Fl×Env)->Option Ans
 |some (.rt r,ρ)=>(zcy ρ io).map (Ans.ok r)
 |some (.nx,ρ)=>(zcy ρ io).map (Ans.ok (.val .non))
 |_=>none
noncomputable def zdI(io:List Nat):Nat->List D->Env
 |_,[]=>[]
 |k,d::r=>some (if io.contains k then .io d else .val d)::zdI io (k+1) r
noncomputable def zaq(P:Nat->Option Fn)(fuel:Nat):Nat->Nat->List D->Option Ans
 |0,_,_=>none
 |n+1,f,ds=>(P f).bind fun F=>if ds.length=F.np then (match F.xb with
  |none=>zoX F.io (zaR (zaq P fuel n) fuel F.body (zdI F.io 0 ds++List.replicate (F.nl-F.np) none))
  |some t=>zwp (ziG (zaq P fuel n) fuel t (zdI [] 0 ds++List.replicate (F.nl-F.np) none))) else none
noncomputable def za7(P:Nat->Option Fn)(fuel n:Nat):Nat->List D->Option SV:=prj (zaq P fuel n)
theorem zqv{fn i ρ}:evE fn (E.int i) ρ=(some (.val (.int i))):=id rfl
theorem zyr{fn b ρ}:evE fn (E.bl b) ρ=(some (.val (.bl b))):=id rfl
theorem ztN{fn x ρ}:evE fn (E.str x) ρ=(some (.val (.str x))):=id rfl
theorem ztO{fn i ρ}:evE fn (E.var i) ρ=(look ρ i):=id rfl
theorem zcT{fn p es ρ}:evE fn (E.prim p es) ρ=((zcx fn es ρ).bind fun rs=>zai p (rs.map zbH)):=id rfl
theorem ztP{fn es ρ}:evE fn (E.tup es) ρ=((zcx fn es ρ).bind fun rs=>(ziF rs).map fun ds=>.val (.tup ds)):=id rfl
theorem ztQ{fn es ρ}:evE fn (E.lst es) ρ=((zcx fn es ρ).bind fun rs=>(ziF rs).map fun ds=>SV.obj true (.lst ds)):=id rfl
theorem ztR{fn a b ρ}:evE fn (E.and a b) ρ=((evE fn a ρ).bind fun r=>match r with
  | .val (.bl true)=>evE fn b ρ
  | .val (.bl false)=>some (.val (.bl false))
  |_=>none):=id rfl
theorem zph{fn p q a b c ρ}:evE fn (E.chain p q a b c) ρ=((evE fn a ρ).bind fun x=>(evE fn b ρ).bind fun y=>(zai p [zbH x,zbH y]).bind fun z=>match z with
  | .val (.bl true)=>(evE fn c ρ).bind fun w=>zai q [zbH y,zbH w]
  | .val (.bl false)=>some (.val (.bl false))
  |_=>none):=id rfl
theorem zmZ{fn f es ρ}:evE fn (E.call f es) ρ=((zcx fn es ρ).bind fun rs=>zez rs (fn f (rs.map zbH))):=id rfl
theorem zm0{fn t ρ}:evE fn (E.dnew t) ρ=(some (.obj true (.dct t [] []))):=id rfl
theorem zm1{fn rng src cond elt ρ}:evE fn (E.comp rng src cond elt) ρ=((zcx fn src ρ).bind fun rs=>(zaI rng rs).bind fun ds=>
  if ds.length<=line then (zdG (fun d=>evT fn cond (some (.val d)::ρ)) (fun d=>evE fn elt (some (.val d)::ρ)) ds).map fun l=>SV.obj true (.lst l) else none):=id rfl
theorem zcF{fn ρ}:zcx fn (Es.nil) ρ=(some []):=id rfl
theorem zbX{fn e es ρ}:zcx fn (Es.cons e es) ρ=((evE fn e ρ).bind fun r=>(zcx fn es ρ).map (r:: ·)):=id rfl
theorem ztS{fn a b ρ}:evT fn (E.and a b) ρ=((evT fn a ρ).bind fun k=>if k then evT fn b ρ else some false):=id rfl
theorem zys{fn a b ρ}:evT fn (E.or a b) ρ=((evT fn a ρ).bind fun k=>if k then some true else evT fn b ρ):=id rfl
theorem ztT{fn a ρ}:evT fn (E.not a) ρ=((evT fn a ρ).map (!·)):=id rfl
theorem zyt{fn b ρ}:evT fn (E.bl b) ρ=(some b):=id rfl
theorem zm2{fn p es ρ}:evT fn (E.prim p es) ρ=((zcx fn es ρ).bind fun rs=>(zai p (rs.map zbH)).bind zbw):=id rfl
theorem zpi{fn p q a b c ρ}:evT fn (E.chain p q a b c) ρ=((evE fn a ρ).bind fun x=>(evE fn b ρ).bind fun y=>(zai p [zbH x,zbH y]).bind fun z=>match z with
  | .val (.bl true)=>(evE fn c ρ).bind fun w=>(zai q [zbH y,zbH w]).bind zbw
  | .val (.bl false)=>some false
  |_=>none):=id rfl
theorem zrD{fn f es ρ}:evT fn (E.call f es) ρ=((zcx fn es ρ).bind fun rs=>(zez rs (fn f (rs.map zbH))).bind zbw):=id rfl
theorem zqw{fn ρ}:zgq fn (MA.nil) ρ=(some []):=id rfl
theorem zzL{fn c r ρ}:zgq fn (MA.e c r) ρ=((evE fn c ρ).bind fun x=>(zkQ x).bind fun a=>(zgq fn r ρ).map (a:: ·)):=id rfl
theorem zzM{fn i r ρ}:zgq fn (MA.s i r) ρ=((zdH ρ i).bind fun d=>if zgt d then (zgq fn r ρ).map (.s i d:: ·) else none):=id rfl
theorem zyu{fn t r ρ}:zgq fn (MA.n t r) ρ=((zgq fn r ρ).map (.n t:: ·)):=id rfl
theorem zrE{fa f ma ρ}:evM fa (M.call f ma) ρ=((zgq (prj fa) ma ρ).bind fun xs=>(fa f (xs.map zqt)).bind fun a=>match a with
  | .ok r outs=>if r.fine&&outs.all zbU then (zfE ρ xs outs).map fun ρ'=>(r,ρ') else none
  | .ex _=>none):=id rfl
theorem zrF{fa fuel e ρ}:exS fa fuel (S.expr e) ρ=((evE (prj fa) e ρ).map fun _=>(.nx,ρ)):=id rfl
theorem zqx{fa fuel i e ρ}:exS fa fuel (S.asg i e) ρ=((evE (prj fa) e ρ).bind fun r=>if r.lent|| !free ρ i then none else some (.nx,ρ.set i (some r))):=id rfl
theorem zqy{fa fuel i j ρ}:exS fa fuel (S.mov i j) ρ=(if free ρ i then (match ρ[j]? with
  |some (some (.val d))=>some (.nx,ρ.set i (some (.val d)))
  |some (some (.obj _ d))=>some (.nx,(ρ.set j (some (.val d))).set i (some (.val d)))
  |_=>none) else none):=id rfl
theorem zqz{fa fuel i e ρ}:exS fa fuel (S.app i e) ρ=(match ρ[i]? with
  |some (some x)=>(match x.cell with
   |some (.lst ds)=>(evE (prj fa) e ρ).bind fun r=>(toD r).bind fun d=>if ds.length<line then some (.nx,ρ.set i (some (x.put (.lst (ds++[d]))))) else none
   |_=>none)
  |_=>none):=id rfl
theorem zm3{fa fuel i k v ρ}:exS fa fuel (S.dset i k v) ρ=(match ρ[i]? with
  |some (some x)=>(match x.cell with
   |some (.dct t ks vs)=>(evE (prj fa) v ρ).bind fun r=>(toD r).bind fun d=>(evE (prj fa) k ρ).bind fun r=>(toD r).bind fun a=>if zbW t a&&decide (ks.length<line) then some (.nx,ρ.set i (some (x.put (zkO t ks vs a d)))) else none
   |_=>none)
  |_=>none):=id rfl
theorem zpj{fa fuel m ρ}:exS fa fuel (S.exprM m) ρ=((evM fa m ρ).map fun x=>(.nx,x.2)):=id rfl
theorem ztU{fa fuel c m a b ρ}:exS fa fuel (S.ifO c m a b) ρ=((evT (prj fa) c ρ).bind fun k=>if k then zaR fa fuel a ρ else (evM fa m ρ).bind fun x=>(zbw x.1).bind fun k=>if k then zaR fa fuel a x.2 else zaR fa fuel b x.2):=id rfl
theorem ztV{fa fuel e ρ}:exS fa fuel (S.ret e) ρ=((evE (prj fa) e ρ).bind fun r=>if r.lent then none else some (.rt r,ρ)):=id rfl
theorem zm4{fa fuel i ρ}:exS fa fuel (S.retV i) ρ=(match ρ[i]? with
  |some (some (.val d))=>some (.rt (.val d),ρ)
  |some (some (.obj _ d))=>some (.rt (.obj true d),ρ.set i none)
  |_=>none):=id rfl
theorem ztW{fa fuel c a b ρ}:exS fa fuel (S.ifs c a b) ρ=((evT (prj fa) c ρ).bind fun k=>if k then zaR fa fuel a ρ else zaR fa fuel b ρ):=id rfl
theorem zrG{fa fuel i rng src body ρ}:exS fa fuel (S.for_ i rng src body) ρ=((zcx (prj fa) src ρ).bind fun rs=>if rs.any SV.lent|| !free ρ i then none else (zaI rng rs).bind fun ds=>zeA i (zaR fa fuel body) ds ρ):=id rfl
theorem zrH{fa fuel i j body ρ}:exS fa fuel (S.forV i j body) ρ=(if free ρ i then (zgR ρ j).bind fun x=>zeA i (zaR fa fuel body) x.1 x.2 else none):=id rfl
theorem zm5{fa fuel c body ρ}:exS fa fuel (S.while_ c body) ρ=(zcM (evT (prj fa) c) (zaR fa fuel body) fuel ρ):=id rfl
theorem ztX{fa fuel js s ρ}:exS fa fuel (S.frz js s) ρ=(exS fa fuel s (js.foldl zqu ρ)):=id rfl
theorem zrI{fa fuel ρ}:exS fa fuel (S.stop) ρ=(none):=id rfl
theorem zrJ{fa fuel ρ}:zaR fa fuel (Ss.nil) ρ=(some (.nx,ρ)):=id rfl
theorem zpk{fa fuel s ss ρ}:zaR fa fuel (Ss.cons s ss) ρ=((exS fa fuel s ρ).bind fun x=>match x.1 with
  | .nx=>zaR fa fuel ss x.2
  |_=>some x):=id rfl
theorem on1{α:Type}{P:List α->Prop}(h: ∀a0,P [a0])(us:List α)(hl:us.length=1):P us:=by
 cases us with
 |nil=>cases hl
 |cons a0 r0=>
  cases r0 with
  |nil=>exact h a0
  |cons _ _=>simp at hl
theorem on2{α:Type}{P:List α->Prop}(h: ∀a0 a1,P [a0,a1])(us:List α)(hl:us.length=2):P us:=by
 cases us with
 |nil=>cases hl
 |cons a0 r0=>
  cases r0 with
  |nil=>cases hl
  |cons a1 r1=>
   cases r1 with
   |nil=>exact h a0 a1
   |cons _ _=>simp at hl
theorem on3{α:Type}{P:List α->Prop}(h: ∀a0 a1 a2,P [a0,a1,a2])(us:List α)(hl:us.length=3):P us:=by
 cases us with
 |nil=>cases hl
 |cons a0 r0=>
  cases r0 with
  |nil=>cases hl
  |cons a1 r1=>
   cases r1 with
   |nil=>cases hl
   |cons a2 r2=>
    cases r2 with
    |nil=>exact h a0 a1 a2
    |cons _ _=>simp at hl
theorem on4{α:Type}{P:List α->Prop}(h: ∀a0 a1 a2 a3,P [a0,a1,a2,a3])(us:List α)(hl:us.length=4):P us:=by
 cases us with
 |nil=>cases hl
 |cons a0 r0=>
  cases r0 with
  |nil=>cases hl
  |cons a1 r1=>
   cases r1 with
   |nil=>cases hl
   |cons a2 r2=>
    cases r2 with
    |nil=>cases hl
    |cons a3 r3=>
     cases r3 with
     |nil=>exact h a0 a1 a2 a3
     |cons _ _=>simp at hl
theorem on5{α:Type}{P:List α->Prop}(h: ∀a0 a1 a2 a3 a4,P [a0,a1,a2,a3,a4])(us:List α)(hl:us.length=5):P us:=by
 cases us with
 |nil=>cases hl
 |cons a0 r0=>
  cases r0 with
  |nil=>cases hl
  |cons a1 r1=>
   cases r1 with
   |nil=>cases hl
   |cons a2 r2=>
    cases r2 with
    |nil=>cases hl
    |cons a3 r3=>
     cases r3 with
     |nil=>cases hl
     |cons a4 r4=>
      cases r4 with
      |nil=>exact h a0 a1 a2 a3 a4
      |cons _ _=>simp at hl
end L2.LW
set_option maxHeartbeats 4000000
namespace L2.LW
open PySem PySem.Spec PyProof.Rows
noncomputable def zyv(K:PySem.W.Frag)(a:Addr)(xs:List V):Prop:=
 ∃(o:Obj) (its:Array Value) (n:Nat),K.lookup a=some o/\o.cls= .type "list"/\o.dict=Option.none/\o.data= .seq its n/\its.size<=sizeLine/\Vals xs its.toList
noncomputable def ziH(ns:List Int)(ys:List V):List (Key×V):=(ns.map Sum.inl).zip ys
noncomputable def ziI(ns:List (List Int))(ys:List V):List (List Key×V):=(ns.map fun l=>l.map Sum.inl).zip ys
noncomputable def kT(l:List Int):D:=.tup (l.map D.int)
mutual
inductive Rep (K:PySem.W.Frag)(W:Addr->Prop)(H:Hp):D->V->Prop where
 |int (i:Int):Rep K W H (.int i) (.int i)
 |bl (b:Bool):Rep K W H (.bl b) (.bl b)
 |non:Rep K W H .non .non
 |str (x:Str):Rep K W H (.str x) (.str x)
 |tup {a:Addr} {xs:List V} {ds:List D} (h:H a=some (.tup xs)) (r:Reps K W H ds xs):Rep K W H (.tup ds) (.ref a)
 |lst {a:Addr} {xs:List V} {ds:List D} (h:(¬W a/\Rd H a (.lst xs))\/zyv K a xs) (r:Reps K W H ds xs):Rep K W H (.lst ds) (.ref a)
 |dK {a:Addr} {ns:List Int} {ys:List V} {vs:List D} (n: ¬W a) (h:H a=some (.dK (ziH ns ys))) (l:ns.length=ys.length) (r:Reps K W H vs ys):Rep K W H (.dct false (ns.map D.int) vs) (.ref a)
 |dT {a:Addr} {ns:List (List Int)} {ys:List V} {vs:List D} (n: ¬W a) (h:H a=some (.dT (ziI ns ys))) (l:ns.length=ys.length) (r:Reps K W H vs ys):Rep K W H (.dct true (ns.map kT) vs) (.ref a)
inductive Reps (K:PySem.W.Frag)(W:Addr->Prop)(H:Hp):List D->List V->Prop where
 |nil:Reps K W H [] []
 |cons {d:D} {v:V} {ds:List D} {vs:List V} (h:Rep K W H d v) (t:Reps K W H ds vs):Reps K W H (d::ds) (v::vs)
end
inductive ORep (K:PySem.W.Frag)(W:Addr->Prop)(H:Hp):D->HO->Prop where
 |lst {xs:List V} {ds:List D} (r:Reps K W H ds xs):ORep K W H (.lst ds) (.lst xs)
 |dK {ns:List Int} {ys:List V} {vs:List D} (l:ns.length=ys.length) (r:Reps K W H vs ys):ORep K W H (.dct false (ns.map D.int) vs) (.dK (ziH ns ys))
 |dT {ns:List (List Int)} {ys:List V} {vs:List D} (l:ns.length=ys.length) (r:Reps K W H vs ys):ORep K W H (.dct true (ns.map kT) vs) (.dT (ziI ns ys))
structure Ext (W:Addr->Prop)(H:Hp)(W':Addr->Prop)(H':Hp):Prop where
 keep: ∀a o,H a=some o->¬W a->H' a=some o
 tup: ∀a xs,H a=some (.tup xs)->H' a=some (.tup xs)
 frz: ∀a o u,H a=some (.frz o u)->H' a=some (.frz o u)
 win: ∀a,W' a->W a\/H a=Option.none
theorem Ext.refl(W:Addr->Prop)(H:Hp):Ext W H W H:=⟨fun _ _ h _=>h,fun _ _ h=>h,fun _ _ _ h=>h,fun _ h=>.inl h⟩
theorem Ext.out{W W':Addr->Prop}{H H':Hp}(x:Ext W H W' H'){a:Addr}{o:HO}(h:H a=some o)(n: ¬W a): ¬W' a:=fun w=>by
 rcases x.win a w with q|q
 ·exact n q
 ·rw[h] at q;cases q
theorem Ext.trans{W W1 W2:Addr->Prop}{H H1 H2:Hp}(x:Ext W H W1 H1)(y:Ext W1 H1 W2 H2):Ext W H W2 H2:=by
 refine⟨fun a o h n=>y.keep a o (x.keep a o h n) (x.out h n),fun a xs h=>y.tup a xs (x.tup a xs h),fun a o u h=>y.frz a o u (x.frz a o u h),fun a w=>?_⟩
 rcases y.win a w with q|q
 ·exact x.win a q
 ·cases e:H a with
  |none=>exact .inr rfl
  |some o=>
   by_cases hw:W a
   ·exact .inl hw
   ·rw[x.keep a o e hw] at q;cases q
theorem Ext.same{W:Addr->Prop}{H H':Hp}(s:Same H H'):Ext W H W H':=⟨fun a o h _=>s a o h,fun a xs h=>s a _ h,fun a o u h=>s a _ h,fun _ w=>.inl w⟩
section
variable {K:PySem.W.Frag} {W W':Addr->Prop} {H H':Hp}
mutual
theorem Rep.ext(x:Ext W H W' H'): ∀{d:D} {v:V},Rep K W H d v->Rep K W' H' d v
 |_,_,.int i=>.int i
 |_,_,.bl b=>.bl b
 |_,_,.non=>.non
 |_,_,.str s=>.str s
 |_,_,.dK n h l r=>.dK (x.out h n) (x.keep _ _ h n) l (Reps.ext x r)
 |_,_,.dT n h l r=>.dT (x.out h n) (x.keep _ _ h n) l (Reps.ext x r)
 |_,_,.tup h r=>.tup (x.tup _ _ h) (Reps.ext x r)
 |_,_,.lst h r=>.lst (by
   rcases h with ⟨n,h|⟨o,h⟩⟩|h
   ·exact .inl ⟨x.out h n,.inl (x.keep _ _ h n)⟩
   ·exact .inl ⟨x.out h n,.inr ⟨o,x.keep _ _ h n⟩⟩
   ·exact .inr h) (Reps.ext x r)
theorem Reps.ext(x:Ext W H W' H'): ∀{ds:List D} {vs:List V},Reps K W H ds vs->Reps K W' H' ds vs
 |_,_,.nil=>.nil
 |_,_,.cons h t=>.cons (Rep.ext x h) (Reps.ext x t)
end
mutual
theorem Rep.less(x: ∀a,W' a->W a): ∀{d:D} {v:V},Rep K W H d v->Rep K W' H d v
 |_,_,.int i=>.int i
 |_,_,.bl b=>.bl b
 |_,_,.non=>.non
 |_,_,.str s=>.str s
 |_,_,.dK n h l r=>.dK (fun w=>n (x _ w)) h l (Reps.less x r)
 |_,_,.dT n h l r=>.dT (fun w=>n (x _ w)) h l (Reps.less x r)
 |_,_,.tup h r=>.tup h (Reps.less x r)
 |_,_,.lst h r=>.lst (by
   rcases h with ⟨n,h⟩|h
   ·exact .inl ⟨fun w=>n (x _ w),h⟩
   ·exact .inr h) (Reps.less x r)
theorem Reps.less(x: ∀a,W' a->W a): ∀{ds:List D} {vs:List V},Reps K W H ds vs->Reps K W' H ds vs
 |_,_,.nil=>.nil
 |_,_,.cons h t=>.cons (Rep.less x h) (Reps.less x t)
end
mutual
theorem Rep.plain: ∀{d:D} {v:V},Rep K W H d v->LW.plain d=true->Rep K W' H d v
 |_,_,.int i,_=>.int i
 |_,_,.bl b,_=>.bl b
 |_,_,.non,_=>.non
 |_,_,.str s,_=>.str s
 |_,_,.tup h r,p=>.tup h (Reps.plain r (by simpa [LW.plain] using p))
 |_,_,.lst h r,p=>by simp[LW.plain] at p
 |_,_,.dK _ _ _ _,p=>by simp[LW.plain] at p
 |_,_,.dT _ _ _ _,p=>by simp[LW.plain] at p
theorem Reps.plain: ∀{ds:List D} {vs:List V},Reps K W H ds vs->zbr ds=true->Reps K W' H ds vs
 |_,_,.nil,_=>.nil
 |_,_,.cons h t,p=>by
  simp only[zbr,Bool.and_eq_true] at p
  exact .cons (Rep.plain h p.1) (Reps.plain t p.2)
end
theorem Reps.length: ∀{ds:List D} {vs:List V},Reps K W H ds vs->ds.length=vs.length
 |_,_,.nil=>rfl
 |_,_,.cons _ t=>by simp[Reps.length t]
theorem Reps.get: ∀{ds:List D} {vs:List V} {i:Nat} {d:D},Reps K W H ds vs->ds[i]? =some d->∃v,vs[i]? =some v/\Rep K W H d v
 |_,_,_,_,.nil,e=>by simp at e
 |_,_,0,_,.cons h _,e=>by simp at e;subst e;exact⟨_,rfl,h⟩
 |_,_,i+1,d,.cons _ t,e=>by
  obtain⟨v,h1,h2⟩:=Reps.get (i:=i) (d:=d) t (by simpa using e)
  exact⟨v,by simpa using h1,h2⟩
theorem Reps.append: ∀{ds es:List D} {vs us:List V},Reps K W H ds vs->Reps K W H es us->Reps K W H (ds++es) (vs++us)
 |_,_,_,_,.nil,s=>s
 |_,_,_,_,.cons h t,s=>.cons h (Reps.append t s)
theorem Reps.take: ∀{ds:List D} {vs:List V} (n:Nat),Reps K W H ds vs->Reps K W H (ds.take n) (vs.take n)
 |_,_,0,_=>.nil
 |_,_,_+1,.nil=>.nil
 |_,_,n+1,.cons h t=>.cons h (Reps.take n t)
theorem Reps.drop: ∀{ds:List D} {vs:List V} (n:Nat),Reps K W H ds vs->Reps K W H (ds.drop n) (vs.drop n)
 |_,_,0,r=>r
 |_,_,_+1,.nil=>.nil
 |_,_,n+1,.cons _ t=>Reps.drop n t
theorem Reps.ints: ∀(ns:List Int),Reps K W H (ns.map D.int) (ns.map V.int)
 |[]=>.nil
 |i::r=>.cons (.int i) (Reps.ints r)
theorem Reps.ofInts: ∀{ds:List D} {vs:List V} {ns:List Int},Reps K W H ds vs->ints? ds=some ns->vs=ns.map V.int
 |_,_,ns,.nil,e=>by simp[ints?] at e;subst e;rfl
 |_,_,ns,.cons (d:=d) h t,e=>by
  cases h with
  |int i=>
   simp only[ints?,jo2] at e
   obtain⟨ms,e1,rfl⟩:=e
   rw[Reps.ofInts t e1];rfl
  |_=>simp[ints?] at e
theorem ORep.ext{d:D}{o:HO}(h:ORep K W H d o)(x:Ext W H W' H'):ORep K W' H' d o:=by
 cases h with
 |lst r=>exact .lst (r.ext x)
 |dK l r=>exact .dK l (r.ext x)
 |dT l r=>exact .dT l (r.ext x)
theorem ORep.less{d:D}{o:HO}(h:ORep K W H d o)(x: ∀a,W' a->W a):ORep K W' H d o:=by
 cases h with
 |lst r=>exact .lst (r.less x)
 |dK l r=>exact .dK l (r.less x)
 |dT l r=>exact .dT l (r.less x)
theorem ORep.plain{d:D}{o:HO}(h:ORep K W H d o)(p:zbU d=true):ORep K W' H d o:=by
 cases h with
 |lst r=>exact .lst (r.plain p)
 |dK l r=>exact .dK l (r.plain p)
 |dT l r=>exact .dT l (r.plain p)
theorem ORep.rep{d:D}{o:HO}{a:Addr}(h:ORep K W H d o)(n: ¬W a)(e:H a=some o):Rep K W H d (.ref a):=by
 cases h with
 |lst r=>exact .lst (.inl ⟨n,.inl e⟩) r
 |dK l r=>exact .dK n e l r
 |dT l r=>exact .dT n e l r
theorem ORep.kind{d:D}{o:HO}(h:ORep K W H d o):(∀xs,o≠ .tup xs)/\(∀b u,o≠ .frz b u):=by
 cases h<;>exact⟨fun _ z=>(nomatch z),fun _ _ z=>(nomatch z)⟩
noncomputable def add(W:Addr->Prop)(a:Addr):Addr->Prop:=fun b=>W b\/b=a
inductive Frz (K:PySem.W.Frag)(W:Addr->Prop)(H:Hp):SV->V->Prop where
 |val {d:D} {v:V} (h:Rep K W H d v):Frz K W H (.val d) v
 |lis {d:D} {a:Addr} {o:HO} (h: ¬W a) (e:H a=some o) (r:ORep K W H d o):Frz K W H (.obj true d) (.ref a)
 |see {d:D} {a:Addr} {o:HO} (h:W a) (e:H a=some o) (r:ORep K W H d o):Frz K W H (.obj false d) (.ref a)
inductive Res (K:PySem.W.Frag)(W:Addr->Prop)(H H':Hp):SV->V->Prop where
 |val {d:D} {v:V} (h:Rep K W H' d v):Res K W H H' (.val d) v
 |new {d:D} {a:Addr} {o:HO} (h:H a=Option.none) (e:H' a=some o) (r:ORep K (add W a) H' d o):Res K W H H' (.obj true d) (.ref a)
 |see {d:D} {a:Addr} {o:HO} (h:W a) (e:H' a=some o) (r:ORep K W H' d o):Res K W H H' (.obj false d) (.ref a)
noncomputable def Wf(W:Addr->Prop)(H:Hp):Prop:=∀a,W a->H a≠Option.none
theorem Res.frz{r:SV}{v:V}(h:Res K W H H' r v)(wf:Wf W H):Frz K W H' r v:=by
 cases h with
 |val h=>exact .val h
 |new h e r=>exact .lis (fun w=>wf _ w h) e (r.less fun b w=>.inl w)
 |see h e r=>exact .see h e r
theorem Frz.same{r:SV}{v:V}(h:Frz K W H r v)(s:Same H H'):Frz K W H' r v:=by
 cases h with
 |val h=>exact .val (h.ext (.same s))
 |lis h e r=>exact .lis h (s _ _ e) (r.ext (.same s))
 |see h e r=>exact .see h (s _ _ e) (r.ext (.same s))
noncomputable def Sees(K:PySem.W.Frag)(W:Addr->Prop)(H:Hp)(d:D)(v:V):Prop:=
 Rep K W H d v\/∃a o,v= .ref a/\H a=some o/\ORep K W H d o
theorem Frz.sees{r:SV}{v:V}(h:Frz K W H r v):Sees K W H (zbH r) v:=by
 cases h with
 |val h=>exact .inl h
 |lis h e r=>exact .inr ⟨_,_,rfl,e,r⟩
 |see h e r=>exact .inr ⟨_,_,rfl,e,r⟩
theorem Sees.lst{ds:List D}{v:V}(h:Sees K W H (.lst ds) v): ∃a xs,v= .ref a/\SqL K H a xs/\Reps K W H ds xs:=by
 rcases h with h|⟨a,o,rfl,e,r⟩
 ·cases h with
  |lst h r=>
   rcases h with ⟨_,h⟩|h
   ·exact⟨_,_,rfl,.inl h,r⟩
   ·exact⟨_,_,rfl,.inr h,r⟩
 ·cases r with
  |lst r=>exact⟨_,_,rfl,.of e,r⟩
theorem Sees.tupH{ds:List D}{v:V}(h:Sees K W H (.tup ds) v): ∃a xs,v= .ref a/\H a=some (.tup xs)/\Reps K W H ds xs:=by
 rcases h with h|⟨a,o,rfl,e,r⟩
 ·cases h with
  |tup h r=>exact⟨_,_,rfl,h,r⟩
 ·cases r
theorem Sees.tup{ds:List D}{v:V}(h:Sees K W H (.tup ds) v): ∃a xs,v= .ref a/\SqT K H a xs/\Reps K W H ds xs:=by
 obtain⟨a,xs,e,h,r⟩:=h.tupH
 exact⟨a,xs,e,.of h,r⟩
theorem Sees.dK{ks vs:List D}{v:V}(h:Sees K W H (.dct false ks vs) v): ∃a ns ys,v= .ref a/\ks=ns.map D.int/\H a=some (.dK (ziH ns ys))/\ns.length=ys.length/\Reps K W H vs ys:=by
 rcases h with h|⟨a,o,rfl,e,r⟩
 ·cases h with
  |dK n h l r=>exact⟨_,_,_,rfl,rfl,h,l,r⟩
 ·cases r with
  |dK l r=>exact⟨_,_,_,rfl,rfl,e,l,r⟩
theorem Sees.dT{ks vs:List D}{v:V}(h:Sees K W H (.dct true ks vs) v): ∃a ns ys,v= .ref a/\ks=ns.map kT/\H a=some (.dT (ziI ns ys))/\ns.length=ys.length/\Reps K W H vs ys:=by
 rcases h with h|⟨a,o,rfl,e,r⟩
 ·cases h with
  |dT n h l r=>exact⟨_,_,_,rfl,rfl,h,l,r⟩
 ·cases r with
  |dT l r=>exact⟨_,_,_,rfl,rfl,e,l,r⟩
theorem Sees.int{i:Int}{v:V}(h:Sees K W H (.int i) v):v= .int i:=by
 rcases h with h|⟨a,o,rfl,e,r⟩
 ·cases h;rfl
 ·cases r
theorem Sees.bl{i:Bool}{v:V}(h:Sees K W H (.bl i) v):v= .bl i:=by
 rcases h with h|⟨a,o,rfl,e,r⟩
 ·cases h;rfl
 ·cases r
theorem Sees.str{i:Str}{v:V}(h:Sees K W H (.str i) v):v= .str i:=by
 rcases h with h|⟨a,o,rfl,e,r⟩
 ·cases h;rfl
 ·cases r
theorem Sees.non{v:V}(h:Sees K W H .non v):v= .non:=by
 rcases h with h|⟨a,o,rfl,e,r⟩
 ·cases h;rfl
 ·cases r
theorem Frz.toD{r:SV}{v:V}{d:D}(h:Frz K W H r v)(e:LW.toD r=some d):Rep K W H d v:=by
 cases h with
 |val h=>simp[LW.toD] at e;subst e;exact h
 |lis h e' r=>simp[LW.toD] at e;subst e;exact r.rep h e'
 |see h e' r=>simp[LW.toD] at e
noncomputable def Own(ρ:LW.Env)(σ:St)(a:Addr):Prop:=∃(i:Nat) (x:SV) (d:D),ρ[i]? =some (some x)/\x.cell=some d/\σ[i]? =some (some (.ref a))
structure R (K:PySem.W.Frag)(W:Addr->Prop)(ρ:LW.Env)(σ:St)(H:Hp):Prop where
 val: ∀(i:Nat) (d:D),ρ[i]? =some (some (.val d))->∃v,σ[i]? =some (some v)/\Rep K W H d v
 nol: ∀(i:Nat) (d:D),ρ[i]? ≠some (some (.obj false d))
 own: ∀(i:Nat) (x:SV) (d:D),ρ[i]? =some (some x)->x.cell=some d->∃a o,σ[i]? =some (some (.ref a))/\W a/\H a=some o/\ORep K W H d o
 inj: ∀(i j:Nat) (x y:SV) (d e:D) (a:Addr),ρ[i]? =some (some x)->ρ[j]? =some (some y)->x.cell=some d->y.cell=some e->σ[i]? =some (some (.ref a))->σ[j]? =some (some (.ref a))->i=j
 wf:Wf W H
 len:ρ.length=σ.length
theorem R.ownW{ρ:LW.Env}{σ:St}(r:R K W ρ σ H){a:Addr}(o:Own ρ σ a):W a/\∃o d,H a=some o/\ORep K W H d o:=by
 obtain⟨i,x,d,h1,h2,h3⟩:=o
 obtain⟨b,o,e,w,q,z⟩:=r.own i x d h1 h2
 rw[h3] at e;cases e
 exact⟨w,o,d,q,z⟩
theorem R.same{ρ:LW.Env}{σ:St}(r:R K W ρ σ H)(s:Same H H'):R K W ρ σ H':=by
 refine⟨fun i d h=>?_,r.nol,fun i x d h h'=>?_,r.inj,fun a w=>?_,r.len⟩
 ·obtain⟨v,h1,h2⟩:=r.val i d h
  exact⟨v,h1,h2.ext (.same s)⟩
 ·obtain⟨a,o,h1,h2,h3,h4⟩:=r.own i x d h h'
  exact⟨a,o,h1,h2,s _ _ h3,h4.ext (.same s)⟩
 ·cases e:H a with
  |none=>exact absurd e (r.wf a w)
  |some o=>rw[s a o e];exact fun z=>nomatch z
theorem R.look{ρ:LW.Env}{σ:St}(r:R K W ρ σ H){i:Nat}{x:SV}(h:look ρ i=some x): ∃v,σ[i]? =some (some v)/\Frz K W H x v/\Res K W H H x v:=by
 unfold LW.look at h
 split at h
 ·rename_i d e
  cases h
  obtain⟨v,h1,h2⟩:=r.val i d e
  exact⟨v,h1,.val h2,.val h2⟩
 ·rename_i o d e
  cases h
  cases o with
  |false=>exact absurd e (r.nol i d)
  |true=>
   obtain⟨a,o,h1,h2,h3,h4⟩:=r.own i _ d e rfl
   exact⟨_,h1,.see h2 h3 h4,.see h2 h3 h4⟩
 ·rename_i d e
  cases h
  obtain⟨a,o,h1,h2,h3,h4⟩:=r.own i _ d e rfl
  exact⟨_,h1,.see h2 h3 h4,.see h2 h3 h4⟩
 ·cases h
noncomputable def ziq(ρ:LW.Env)(i:Nat):Prop:=∃d,ρ[i]? =some (some (.io d))
theorem zdJ{ρ:LW.Env}{i:Nat}(h:LW.free ρ i=true): ¬ziq ρ i:=fun zz0=>by
 obtain⟨d,e⟩:=zz0
 unfold LW.free at h;rw[e] at h;cases h
structure SPost (K:PySem.W.Frag)(W:Addr->Prop)(ρ:LW.Env)(σ:St)(H:Hp)(W':Addr->Prop)(ρ':LW.Env)(σ':St)(H':Hp):Prop where
 r:R K W' ρ' σ' H'
 keep: ∀a o,H a=some o->¬Own ρ σ a->H' a=some o
 win: ∀a,W' a->W a\/H a=Option.none
 wout: ∀a,W a->¬Own ρ σ a->W' a/\¬Own ρ' σ' a
 io: ∀i,(ziq ρ' i↔ziq ρ i)/\(ziq ρ i->σ'[i]? =σ[i]?)
theorem SPost.trans{W1 W2:Addr->Prop}{ρ ρ1 ρ2:LW.Env}{σ σ1 σ2:St}{H1 H2:Hp}(x:SPost K W ρ σ H W1 ρ1 σ1 H1)(y:SPost K W1 ρ1 σ1 H1 W2 ρ2 σ2 H2)(r0:R K W ρ σ H):SPost K W ρ σ H W2 ρ2 σ2 H2:=by
 have no1: ∀a o,H a=some o->¬Own ρ σ a->¬Own ρ1 σ1 a:=fun a o h n z=>by
  rcases x.win a (x.r.ownW z).1 with w|w
  ·exact (x.wout a w n).2 z
  ·rw[h] at w;cases w
 refine⟨y.r,fun a o h n=>y.keep a o (x.keep a o h n) (no1 a o h n),fun a w=>?_,fun a w n=>?_,fun i=>⟨(y.io i).1.trans (x.io i).1,fun z=>((y.io i).2 ((x.io i).1.mpr z)).trans ((x.io i).2 z)⟩⟩
 ·rcases y.win a w with q|q
  ·exact x.win a q
  ·cases e:H a with
   |none=>exact .inr rfl
   |some o=>
    by_cases n:Own ρ σ a
    ·exact .inl (r0.ownW n).1
    ·rw[x.keep a o e n] at q;cases q
 ·obtain⟨w1,n1⟩:=x.wout a w n
  exact y.wout a w1 n1
theorem SPost.ext{W1:Addr->Prop}{ρ ρ1:LW.Env}{σ σ1:St}{H1:Hp}(x:SPost K W ρ σ H W1 ρ1 σ1 H1)(r0:R K W ρ σ H):Ext W H W1 H1:=by
 refine⟨fun a o h n=>x.keep a o h fun z=>n (r0.ownW z).1,fun a xs h=>x.keep a _ h fun z=>?_,fun a o u h=>x.keep a _ h fun z=>?_,x.win⟩
 ·obtain⟨_,o,d,e,q⟩:=r0.ownW z
  rw[h] at e;cases e;exact q.kind.1 xs rfl
 ·obtain⟨_,o,d,e,q⟩:=r0.ownW z
  rw[h] at e;cases e;exact q.kind.2 _ _ rfl
theorem SPost.same{ρ:LW.Env}{σ:St}(r0:R K W ρ σ H)(s:Same H H'):SPost K W ρ σ H W ρ σ H':=
 ⟨r0.same s,fun a o h _=>s a o h,fun a w=>.inl w,fun a w n=>⟨w,n⟩,fun _=>⟨.rfl,fun _=>rfl⟩⟩
end
noncomputable def zAO(ρ:LW.Env)(σ:St)(a:Addr):Prop:=∃i,ziq ρ i/\σ[i]? =some (some (.ref a))
inductive Ret (K:PySem.W.Frag)(W:Addr->Prop)(ρ:LW.Env)(σ:St)(W':Addr->Prop)(H':Hp):SV->V->Prop where
 |val {d:D} {v:V} (h:Rep K W' H' d v):Ret K W ρ σ W' H' (.val d) v
 |new {d:D} {a:Addr} {o:HO} (h:W' a) (n: ¬(W a/\¬Own ρ σ a)) (n': ¬zAO ρ σ a) (e:H' a=some o) (r:ORep K W' H' d o):Ret K W ρ σ W' H' (.obj true d) (.ref a)
noncomputable def tE(K:PySem.W.Frag)(fn:Nat->List D->Option SV)(c:E):TE:=fun σ H Q=>∃W ρ r,R K W ρ σ H/\evE fn c ρ=some r/\∀v H',Same H H'->Res K W H H' r v->Q v H'
noncomputable def tV(K:PySem.W.Frag)(fn:Nat->List D->Option SV)(c:E):TE:=fun σ H Q=>∃W ρ r,R K W ρ σ H/\evE fn c ρ=some r/\∀v H',Same H H'->Frz K W H' r v->Q v H'
noncomputable def tVs(K:PySem.W.Frag)(fn:Nat->List D->Option SV)(cs:Es):TA:=fun σ H Q=>∃W ρ rs,R K W ρ σ H/\zcx fn cs ρ=some rs/\∀vs H',Same H H'->Paired (Frz K W H') rs vs->Q vs H'
noncomputable def tT(K:PySem.W.Frag)(fn:Nat->List D->Option SV)(c:E):TT:=fun σ H Q=>∃W ρ b,R K W ρ σ H/\evT fn c ρ=some b/\∀H',Same H H'->Q b H'
noncomputable def FlOk(K:PySem.W.Frag)(W:Addr->Prop)(ρ:LW.Env)(σ:St)(W':Addr->Prop)(ρ':LW.Env)(σ':St)(H':Hp)(D:Ends):Fl->Prop
 | .nx=>D.nx σ' H'
 | .br=>D.bk σ' H'
 | .ct=>D.ct σ' H'
 | .rt r=>∀v,Ret K W ρ σ W' H' r v->D.rt v H'
noncomputable def tSs(K:PySem.W.Frag)(ex:LW.Env->Option (Fl×LW.Env)):TS:=fun D σ H=>∃W ρ x,R K W ρ σ H/\ex ρ=some x/\∀W' σ' H',SPost K W ρ σ H W' x.2 σ' H'->FlOk K W ρ σ W' x.2 σ' H' D x.1
theorem _root_.L2.PE.imp{X:Cx}{e:Expr}{t t':TE}(h:PE X e t)(i: ∀σ H Q,t' σ H Q->t σ H Q):PE X e t':=fun pins s σ H Q I q=>h pins s σ H Q I (i σ H Q q)
theorem _root_.L2.PT.imp{X:Cx}{e:Expr}{t t':TT}(h:PT X e t)(i: ∀σ H Q,t' σ H Q->t σ H Q):PT X e t':=fun pins s σ H Q I q=>h pins s σ H Q I (i σ H Q q)
theorem _root_.L2.PW.imp{X:Cx}{e:Expr}{t t':TT}(h:PW X e t)(i: ∀σ H Q,t' σ H Q->t σ H Q):PW X e t':=fun wh pins s σ H Q I q=>h wh pins s σ H Q I (i σ H Q q)
theorem _root_.L2.PA.imp{X:Cx}{e:List Expr}{t t':TA}(h:PA X e t)(i: ∀σ H Q,t' σ H Q->t σ H Q):PA X e t':=fun pos pins s σ H Q I q=>h pos pins s σ H Q I (i σ H Q q)
theorem _root_.L2.PS.imp{X:Cx}{e:Stmt}{t t':TS}(h:PS X e t)(i: ∀D σ H,t' D σ H->t D σ H):PS X e t':=fun pins s σ H D I q=>h pins s σ H D I (i D σ H q)
theorem _root_.L2.PSs.imp{X:Cx}{e:List Stmt}{t t':TS}(h:PSs X e t)(i: ∀D σ H,t' D σ H->t D σ H):PSs X e t':=fun pins s σ H D I q=>h pins s σ H D I (i D σ H q)
end L2.LW
set_option maxHeartbeats 4000000
namespace HT
open PySem PyProof.Rows
theorem zrK:Slot "tuple" (cmpInfo .GtE).2.1 "tuple.__ge__":=
 .of (owner:="tuple") (n:="__ge__") (by rw[typeLookup_type,builtinLookup_eq_fast];kernel_rfl) (by decide+kernel) (by decide+kernel) (by decide+kernel)
  (by first|exact .inl (by decide+kernel)|exact .inr (by decide+kernel)) (by rw[isSubtype_type];kernel_rfl)
theorem ztY:entryFor table "tuple.__ge__"=some Builtin.«tuple.__ge__»:=entryFor_of_tree (by kernel_rfl)
theorem ztZ(a b:Value):argsOk "tuple.__ge__" ⟨[a,b],[]⟩:=by
 unfold argsOk;rw[signature?_of (id:="tuple.__ge__") (n:=['_','_','e','g','_','_']) (o:=['e','l','p','u','t']) (by kernel_rfl) PySem.F.owner_tuple];kernel_rfl
theorem zpl(A:Around)(s:Shared)(a:Int)(t:Tok)(c:Int)(u:Tok)(prog:Program)(w:World)(E:Value->Shared->Prop)(Q:Value->Shared->Prop)(h:Q (.bool (decide (c<=a))) s):
  wpAny (model prog w) A (richCompare .GtE (.int a t) (.int c u)) Q E s:=
 (PyProof.Rows.ge_int h:wpAny (model prog w) A (compareOp .GtE (.int a t) (.int c u)) Q E s)
section
open PySem.SeqAt
open PySem.AutoSeq1 (wpAny_loadPart')
open PySem.MeetsSeq PySem.MeetsSeq2 PySem.MeetsSeq3
theorem zhl(l b:Addr)(items items2:Array Value)(n n2:Nat)(dd dd2:Option Addr)(sl sl2:Array (Option Value))(ns ms:List Int)(hi:IntsAre items.toList ns)(hj:IntsAre items2.toList ms):
  Meets (Builtin.«tuple.__ge__» ⟨[.ref l,.ref b],[]⟩)
   (fun _ R s=>s.heap.get? l=some { cls:=.type "tuple",dict:=dd,data:=.seq items n,slots:=sl }/\s.heap.get? b=some { cls:=.type "tuple",dict:=dd2,data:=.seq items2 n2,slots:=sl2 }/\
    R (.ok (.ret (.bool (!lexLt ns ms)))) s):=
 .of_wp fun prog w A R s h=>by
  obtain⟨hp,g,d,tk,os⟩:=s;obtain⟨hl,hb,h⟩:=h
  have f2:=AutoSeq1.sub_tuple_tuple
  have z1:items.size=ns.length:=by rw[<-hi.length];simp
  have z2:items2.size=ms.length:=by rw[<-hj.length];simp
  wp_walk using wpAny_loadPart' hl,wpAny_loadPart' hb,wpAny_forIn_list _ (fun zch b s'=>b.1=none/\s'=⟨hp,g,d,tk,os⟩/\∃(vs ws:List Value) (ns' ms':List Int),zch=vs.zip ws/\
   IntsAre vs ns'/\IntsAre ws ms'/\ns'.length+items2.size=ms'.length+items.size/\R (.ok (.ret (.bool (!lexLt ns' ms')))) ⟨hp,g,d,tk,os⟩) _
  case turn=>
   rintro⟨y,x⟩ zch b s' ⟨hb',rfl,vs,ws,ns',ms',hz,hvi,hwi,hlen,hR⟩
   cases hvi with
   |nil=>rw[List.zip_nil_left] at hz;cases hz
   |cons a t hvi'=>
    cases hwi with
    |nil=>rw[List.zip_nil_right] at hz;cases hz
    |cons c u hwi'=>
     rw[List.zip_cons_cons] at hz
     injection hz with hyx hrest
     injection hyx with hy hx
     subst hy hx
     rw[lexLt_cons] at hR
     simp only[List.length_cons] at hlen
     obtain⟨e,he,hiff⟩:=zkL A.in1 ⟨hp,g,d,tk,os⟩ a t c u
     refine wpAny_bind (he prog w _ _ ?_)
     cases e with
     |true=>
      rw[if_pos (hiff.mp rfl)] at hR
      wp_walk
      exact⟨rfl,rfl,_,_,_,_,hrest,hvi',hwi',by omega,hR⟩
     |false=>
      rw[if_neg (fun q=>absurd (hiff.mpr q) Bool.false_ne_true)] at hR
      have e2:(!decide (a<c))=decide (c<=a):=by
       by_cases q:a<c
       ·rw[decide_eq_true q,decide_eq_false (by omega)];rfl
       ·rw[decide_eq_false q,decide_eq_true (by omega)];rfl
      rw[e2] at hR
      have hri:=zpl A.in1 ⟨hp,g,d,tk,os⟩ a t c u prog w
      wp_walk using hri
      exact⟨_,rfl,by simpa using hR⟩
  case fin=>
   rintro⟨b1,b2⟩ s' ⟨hb',rfl,vs,ws,ns',ms',hz,hvi,hwi,hlen,hR⟩
   simp only at hb'
   subst hb'
   have hv:(!lexLt ns' ms')=decide (items.size>=items2.size):=by
    cases hvi with
    |nil=>
     cases hwi with
     |nil=>
      simp only[List.length_nil] at hlen
      rw[zdX]
      exact (decide_eq_true (by omega)).symm
     |cons c u hw=>
      simp only[List.length_nil,List.length_cons] at hlen
      rw[zds]
      exact (decide_eq_false (by omega)).symm
    |cons a t hv=>
     cases hwi with
     |nil=>
      simp only[List.length_nil,List.length_cons] at hlen
      rw[zdt]
      exact (decide_eq_true (by omega)).symm
     |cons c u hw=>
      rw[List.zip_cons_cons] at hz
      cases hz
   rw[hv] at hR
   wp_walk
   exact⟨_,rfl,by simpa [Builtin.Tuple.tupleCompareSizes] using hR⟩
  case h=>
   exact⟨rfl,rfl,items.toList,items2.toList,ns,ms,rfl,hi,hj,by omega,h⟩
end
section
variable {prog:Program} {w:World} {A:Around} {E:Value->Shared->Prop} {s:Shared}
theorem ge_tupInts{l b:Addr}{items items2:Array Value}{ns ms:List Int}{Q:Value->Shared->Prop}(hl:IsTup s.heap l items)(hb:IsTup s.heap b items2)(hi:IntsAre items.toList ns)(hj:IntsAre items2.toList ms)
  (hu:A.units<cLine) (h:Q (.bool (!lexLt ns ms)) s):wpAny (model prog w) A (compareOp .GtE (.ref l) (.ref b)) Q E s:=by
 obtain⟨⟨cls,dd,data,sl⟩,ho,hc,n,hd⟩:=id hl
 obtain⟨⟨cls2,dd2,data2,sl2⟩,ho2,hc2,n2,hd2⟩:=id hb
 simp only at hc hd hc2 hd2
 subst hc hd hc2 hd2
 exact richCompare_meets_room (op:=.GtE) ⟨_,ho,rfl⟩ ⟨_,ho2,rfl⟩ zrK ztY (ztZ _ _) (zhl l b items items2 n n2 dd dd2 sl sl2 ns ms hi hj)
  ⟨ho,ho2,show Value.bool (!lexLt ns ms)≠Value.notImplemented/\Q (.bool (!lexLt ns ms)) s from ⟨(fun x=>nomatch x),h⟩⟩ hu
end
end HT
set_option maxHeartbeats 4000000
namespace L2.LW
open PySem PySem.Spec PyProof.Rows
noncomputable def VR(K:PySem.W.Frag)(f:List D->Option SV)(vs:List V)(H:Hp)(Q:VK):Prop:=
 ∃W ds r,Wf W H/\Paired (Sees K W H) ds vs/\f ds=some r/\∀v H',Same H H'->Res K W H H' r v->Q v H'
noncomputable def VR2(K:PySem.W.Frag)(f:List D->Option SV):R2:=fun x y H Q=>VR K f [x,y] H Q
theorem pr1{α β:Type}{F:α->β->Prop}{ds:List α}{x:β}(h:Paired F ds [x]): ∃d,ds=[d]/\F d x:=by
 cases h with
 |cons h t=>cases t;exact⟨_,rfl,h⟩
theorem pr2{α β:Type}{F:α->β->Prop}{ds:List α}{x y:β}(h:Paired F ds [x,y]): ∃d e,ds=[d,e]/\F d x/\F e y:=by
 cases h with
 |cons h t=>
  obtain⟨e,rfl,h2⟩:=pr1 t
  exact⟨_,e,rfl,h,h2⟩
mutual
noncomputable def zcu:D->PyData
 | .int i=>.int i
 | .bl b=>.bool b
 | .non=>.none
 | .str x=>.str x
 | .tup l=>.tuple (zcz l)
 | .lst l=>.list (zcz l)
 | .dct _ _ _=>.dict []
noncomputable def zcz:List D->List PyData
 |[]=>[]
 |x::xs=>zcu x::zcz xs
end
mutual
theorem zfp: ∀d e:D,PyData.eqv (zcu d) (zcu e)=eqD d e
 | .int a,e=>by cases e<;>simp[zcu,PyData.eqv,eqD]
 | .bl a,e=>by cases e<;>simp[zcu,PyData.eqv,eqD]
 | .non,e=>by cases e<;>simp[zcu,PyData.eqv,eqD]
 | .str a,e=>by cases e<;>simp[zcu,PyData.eqv,eqD]
 | .tup l,e=>by
  cases e with
  |tup m=>simp only[zcu,PyData.eqv,eqD];exact zeB l m
  |_=>simp[zcu,PyData.eqv,eqD]
 | .lst l,e=>by
  cases e with
  |lst m=>simp only[zcu,PyData.eqv,eqD];exact zeB l m
  |_=>simp[zcu,PyData.eqv,eqD]
 | .dct t a b,e=>by cases e<;>simp[zcu,PyData.eqv,eqD]
theorem zeB: ∀ds es:List D,PyData.eqvAll (zcz ds) (zcz es)=zgp ds es
 |[],[]=>by simp[zcz,PyData.eqvAll,zgp]
 |[],_::_=>by simp[zcz,PyData.eqvAll,zgp]
 |_::_,[]=>by simp[zcz,PyData.eqvAll,zgp]
 |x::xs,y::ys=>by simp only[zcz,PyData.eqvAll,zgp];rw[zfp x y,zeB xs ys]
end
theorem zdK{n:Nat}(ih: ∀d,zby n d=true->(zcu d).canLay0=true/\(zcu d).depth<=n): ∀l:List D,l.all (zby n)=true->PyData.canLayAll0 (zcz l)=true/\PyData.depthAll (zcz l)<=n
 |[],_=>by simp[zcz,PyData.canLayAll0,PyData.depthAll]
 |x::xs,h=>by
  simp only[List.all_cons,Bool.and_eq_true] at h
  obtain⟨h1,h2⟩:=ih x h.1
  obtain⟨h3,h4⟩:=zdK ih xs h.2
  refine⟨by simp[zcz,PyData.canLayAll0,h1,h3],?_⟩
  simp only[zcz,PyData.depthAll]
  omega
theorem zba: ∀(n:Nat) (d:D),zby n d=true->(zcu d).canLay0=true/\(zcu d).depth<=n
 |_,.int _,_=>by simp[zcu,PyData.canLay0,PyData.depth]
 |_,.bl _,_=>by simp[zcu,PyData.canLay0,PyData.depth]
 |_,.non,_=>by simp[zcu,PyData.canLay0,PyData.depth]
 |_,.str _,h=>by simp[zby] at h
 |0,.dct _ _ _,h=>by simp[zby] at h
 |_+1,.dct _ _ _,h=>by simp[zby] at h
 |0,.tup _,h=>by simp[zby] at h
 |0,.lst _,h=>by simp[zby] at h
 |n+1,.tup l,h=>by
  obtain⟨h1,h2⟩:=zdK (zba n) l (by simpa [zby] using h)
  exact⟨by simpa [zcu,PyData.canLay0] using h1,by simp only[zcu,PyData.depth];omega⟩
 |n+1,.lst l,h=>by
  obtain⟨h1,h2⟩:=zdK (zba n) l (by simpa [zby] using h)
  exact⟨by simpa [zcu,PyData.canLay0] using h1,by simp only[zcu,PyData.depth];omega⟩
theorem zcU(d:D): ∀l:List D,((zcz l).any fun y=>PyData.eqv y (zcu d))=l.any fun y=>eqD y d
 |[]=>by simp[zcz]
 |x::xs=>by simp only[zcz,List.any_cons];rw[zfp x d,zcU d xs]
section
variable {X:Cx} {pins:List (Addr×Obj)} {σ:St} {H:Hp} {s:Shared} {W:Addr->Prop}
mutual
theorem Rep.reads(I:Inv X pins σ H s): ∀{n:Nat} {d:D} {x:V} {v:Value},zby n d=true->Rep X.K W H d x->RelV x v->∃as,Reads s.heap v (zcu d) as
 |_,_,_,_,_,.int i,r=>by obtain⟨t,rfl⟩:=r;exact⟨_,.int _ _⟩
 |_,_,_,_,_,.bl b,r=>by cases r;exact⟨_,.bool _⟩
 |_,_,_,_,_,.non,r=>by cases r;exact⟨_,.none⟩
 |_,_,_,_,_,.str x,r=>by obtain⟨t,rfl⟩:=r;exact⟨_,.str _ _⟩
 |0,_,_,_,n,.tup h rs,r=>by simp[zby] at n
 |0,_,_,_,n,.lst h rs,r=>by simp[zby] at n
 |_+1,_,_,_,n,.tup h rs,r=>by
  cases r
  obtain⟨its,rv,⟨o,ho,hc,m,hd⟩,hz⟩:=I.tuple (.of h)
  obtain⟨as,q⟩:=Reps.reads I (by simpa [zby] using n) rs rv
  exact⟨as,by simp only[zcu];exact .tuple ho hc hd (by simpa using q)⟩
 |_+1,_,_,_,n,.lst h rs,r=>by
  cases r
  obtain⟨its,rv,⟨o,m,ho,hc,_,hd⟩,hz⟩:=I.list (show SqL X.K H _ _ from h.elim (fun z=>.inl z.2) fun z=>.inr z)
  obtain⟨as,q⟩:=Reps.reads I (by simpa [zby] using n) rs rv
  exact⟨_,by simp only[zcu];exact .list ho hc hd (by simpa using q)⟩
 |0,_,_,_,n,.dK _ _ _ _,r=>by simp[zby] at n
 |0,_,_,_,n,.dT _ _ _ _,r=>by simp[zby] at n
 |_+1,_,_,_,n,.dK _ _ _ _,r=>by simp[zby] at n
 |_+1,_,_,_,n,.dT _ _ _ _,r=>by simp[zby] at n
theorem Reps.reads(I:Inv X pins σ H s): ∀{n:Nat} {ds:List D} {xs:List V} {vs:List Value},ds.all (zby n)=true->Reps X.K W H ds xs->Vals xs vs->∃as,ReadsAll s.heap vs (zcz ds) as
 |_,_,_,_,_,.nil,r=>by cases r;exact⟨_,by simp only[zcz];exact .nil⟩
 |_,_,_,_,n,.cons h t,r=>by
  cases r with
  |cons r1 r2=>
   simp only[List.all_cons,Bool.and_eq_true] at n
   obtain⟨as,q1⟩:=Rep.reads I n.1 h r1
   obtain⟨bs,q2⟩:=Reps.reads I n.2 t r2
   exact⟨_,by simp only[zcz];exact .cons q1 q2⟩
end
theorem Sees.reads(I:Inv X pins σ H s){n:Nat}{d:D}{x:V}{v:Value}(hn:zby n d=true)(h:Sees X.K W H d x)(r:RelV x v): ∃as,Reads s.heap v (zcu d) as:=by
 rcases h with h|⟨a,o,rfl,e,rs⟩
 ·exact h.reads I hn r
 ·cases r
  cases rs with
  |lst rs=>
   obtain⟨its,rv,⟨o,m,ho,hc,_,hd⟩,hz⟩:=I.list (show SqL X.K H _ _ from .of e)
   cases n with
   |zero=>simp[zby] at hn
   |succ n=>
    obtain⟨as,q⟩:=rs.reads I (n:=n) (by simpa [zby] using hn) rv
    exact⟨_,by simp only[zcu];exact .list ho hc hd (by simpa using q)⟩
  |dK l r=>cases n<;>simp[zby] at hn
  |dT l r=>cases n<;>simp[zby] at hn
theorem Sees.readsL(I:Inv X pins σ H s){n:Nat}{l:List D}{x:V}{v:Value}(hn:l.all (zby n)=true)(h:Sees X.K W H (.lst l) x)(r:RelV x v): ∃as,Reads s.heap v (zcu (.lst l)) as:=
 h.reads I (n:=n+1) (by simpa [zby] using hn) r
theorem Sees.readsT(I:Inv X pins σ H s){n:Nat}{l:List D}{x:V}{v:Value}(hn:l.all (zby n)=true)(h:Sees X.K W H (.tup l) x)(r:RelV x v): ∃as,Reads s.heap v (zcu (.tup l)) as:=
 h.reads I (n:=n+1) (by simpa [zby] using hn) r
end
theorem zaO{H:Hp}{p:Addr}(h:H p=Option.none)(o:HO):Same H (upd H p o):=fun b u q=>by rw[za9 (zb3 q h)];exact q
theorem zcV{K:PySem.W.Frag}{W:Addr->Prop}{H:Hp}{p:Addr}{ds:List D}{xs:List V}(hp:H p=Option.none)(r:Reps K W H ds xs):Res K W H (upd H p (.lst xs)) (.lis true ds) (.ref p):=by
 refine .new hp zbe (.lst (r.ext ⟨fun a o h _=>zaO hp _ a o h,fun a xs h=>zaO hp _ a _ h,fun a o u h=>zaO hp _ a _ h,fun a w=>?_⟩))
 rcases w with w|rfl
 ·exact .inl w
 ·exact .inr hp
theorem zm6{K:PySem.W.Frag}{W:Addr->Prop}{H:Hp}{p:Addr}{ds:List D}{xs:List V}(hp:H p=Option.none)(r:Reps K W H ds xs):Res K W H (upd H p (.tup xs)) (.val (.tup ds)) (.ref p):=
 .val (.tup zbe (r.ext (.same (zaO hp _))))
section
variable {X:Cx}
theorem zhm:line=sizeLine:=by rw[sizeLine_eq];rfl
theorem zeC: ∀{l:List D} {ns:List Int},ints? l=some ns->l=ns.map D.int
 |[],ns,e=>by simp[ints?] at e;subst e;rfl
 |d::r,ns,e=>by
  cases d with
  |int i=>
   simp only[ints?,jo2] at e
   obtain⟨ms,e1,rfl⟩:=e
   rw[zeC e1];rfl
  |_=>simp[ints?] at e
theorem zhn(ns:List Int):(ns.map Sum.inl).map kV=ns.map V.int:=by
 rw[List.map_map];rfl
theorem zd1: ∀(a b:List Int),zgp (a.map D.int) (b.map D.int)=decide (a=b)
 |[],[]=>by simp[zgp]
 |[],_::_=>by simp[zgp]
 |_::_,[]=>by simp[zgp]
 |x::xs,y::ys=>by
  rw[Bool.eq_iff_iff]
  simp[zgp,eqD,zd1 xs ys]
theorem zkR{a b:List Int}(h:(a.map Sum.inl:List Key)=b.map Sum.inl):a=b:=(List.map_inj_right (fun _ _ z=>Sum.inl.inj z)).mp h
theorem zkS(k d:D)(ks:List D):kix (d::ks) k=if eqD d k then some 0 else (kix ks k).map (· +1):=by
 unfold kix;rw[List.findIdx?_cons]
theorem zm7: ∀{ns:List Int} {ys:List V},ns.length=ys.length->∀i:Int,zgN (ziH ns ys) (.inl i)=(kix (ns.map D.int) (.int i)).bind fun j=>ys[j]?
 |[],[],_,i=>rfl
 |n::ns,y::ys,h,i=>by
  have ih:=zm7 (ns:=ns) (ys:=ys) (by simpa using h) i
  show zgN ((Sum.inl n,y)::ziH ns ys) (.inl i)=_
  rw[List.map_cons,zkS]
  by_cases e:n=i
  ·rw[zdZ (by simp[e])];simp[eqD,e]
  ·rw[zd0 (by simp[e]),ih]
   have:eqD (.int n) (.int i)=false:=by simp[eqD,e]
   rw[this]
   cases kix (ns.map D.int) (.int i)<;>simp
theorem zm8: ∀{ns:List (List Int)} {ys:List V},ns.length=ys.length->∀i:List Int,zgN (ziI ns ys) (i.map Sum.inl)=(kix (ns.map kT) (kT i)).bind fun j=>ys[j]?
 |[],[],_,i=>rfl
 |n::ns,y::ys,h,i=>by
  have ih:=zm8 (ns:=ns) (ys:=ys) (by simpa using h) i
  show zgN ((n.map Sum.inl,y)::ziI ns ys) (i.map Sum.inl)=_
  rw[List.map_cons,zkS]
  by_cases e:n=i
  ·rw[zdZ (by simp[e])]
   have:eqD (kT n) (kT i)=true:=by simp[kT,eqD,zd1,e]
   rw[this];rfl
  ·rw[zd0 (fun z=>e (zkR z)),ih]
   have:eqD (kT n) (kT i)=false:=by simp[kT,eqD,zd1,e]
   rw[this]
   cases kix (ns.map kT) (kT i)<;>simp
theorem zqA{ks:List D}{k:D}{j:Nat}(h:kix ks k=some j):j<ks.length:=by
 unfold kix at h
 obtain⟨h1,_⟩:=List.findIdx?_eq_some_iff_getElem.mp h
 exact h1
theorem zj7{ns:List Int}{ys:List V}(h:ns.length=ys.length){i:Int}:(zgN (ziH ns ys) (.inl i)).isSome=(kix (ns.map D.int) (.int i)).isSome:=by
 rw[zm7 h]
 cases e:kix (ns.map D.int) (.int i) with
 |none=>rfl
 |some j=>have:=zqA e;simp at this;simp;omega
theorem zj8{ns:List (List Int)}{ys:List V}(h:ns.length=ys.length){i:List Int}:(zgN (ziI ns ys) (i.map Sum.inl)).isSome=(kix (ns.map kT) (kT i)).isSome:=by
 rw[zm8 h]
 cases e:kix (ns.map kT) (kT i) with
 |none=>rfl
 |some j=>have:=zqA e;simp at this;simp;omega
theorem zyw{K:PySem.W.Frag}{W:Addr->Prop}{H:Hp}{ns:List Int}{ys:List V}{vs:List D}{i:Int}{d:D}(h:ns.length=ys.length)(r:Reps K W H vs ys)(e:zrx (ns.map D.int) vs (.int i)=some d): ∃y,zgN (ziH ns ys) (.inl i)=some y/\Rep K W H d y:=by
 unfold zrx at e
 rw[jo1] at e
 obtain⟨j,e1,e2⟩:=e
 obtain⟨y,e3,e4⟩:=r.get e2
 exact⟨y,by rw[zm7 h,e1];exact e3,e4⟩
theorem zyx{K:PySem.W.Frag}{W:Addr->Prop}{H:Hp}{ns:List (List Int)}{ys:List V}{vs:List D}{i:List Int}{d:D}(h:ns.length=ys.length)(r:Reps K W H vs ys)(e:zrx (ns.map kT) vs (kT i)=some d): ∃y,zgN (ziI ns ys) (i.map Sum.inl)=some y/\Rep K W H d y:=by
 unfold zrx at e
 rw[jo1] at e
 obtain⟨j,e1,e2⟩:=e
 obtain⟨y,e3,e4⟩:=r.get e2
 exact⟨y,by rw[zm8 h,e1];exact e3,e4⟩
theorem zbs:OpR X (binaryOp .Add) (VR2 X.K (zai .add)):=by
 rintro pins s σ H x y v u Q I rx ry ⟨W,ds,r,wf,hs,hf,q⟩
 obtain⟨d,e,rfl,h1,h2⟩:=pr2 hs
 replace hf:zwj [d,e]=some r:=hf
 unfold zwj at hf
 split at hf
 ·rename_i a b z;cases z;cases hf
  cases h1.int;cases h2.int
  exact ztj pins s σ H _ _ v u Q I rx ry ⟨_,_,rfl,rfl,q _ H (.refl H) (.val (.int _))⟩
 ·rename_i a b z;cases z
  split at hf
  ·rename_i hl
   cases hf
   obtain⟨p,xs,rfl,hp,rp⟩:=h1.lst
   obtain⟨p2,xs2,rfl,hp2,rp2⟩:=h2.lst
   cases rx;cases ry
   obtain⟨its,rv,⟨⟨c1,d1,da1,sl1⟩,n,ho,hc,hdd,hd⟩,hz⟩:=I.list hp
   obtain⟨its2,rv2,⟨⟨c2,d2,da2,sl2⟩,n2,ho2,hc2,hdd2,hd2⟩,hz2⟩:=I.list hp2
   simp only at hc hd hdd hc2 hd2 hdd2
   subst hc hd hdd hc2 hd2 hdd2
   have l1:=rv.length
   have l2:=rv2.length
   have l3:=rp.length
   have l4:=rp2.length
   have le:=zhm
   refine concat_meets ⟨_,ho,rfl⟩ ⟨_,ho2,rfl⟩ noFill_list_add seq_list_add PySem.F.slot_list_add PySem.F.entry_list_add (PySem.F.args_list_add_2 _ _) (list_addW p p2 its.toArray its2.toArray n n2 Option.none Option.none sl1 sl2 (by simp;omega)) ⟨ho,ho2,?_⟩
   have e:its.toArray++its2.toArray=(its++its2).toArray:=by simp
   rw[e]
   exact⟨.ref _,_,I.lnew (t':=s.toks) (rv.append rv2) (by rw[List.length_append];omega),rfl,q _ _ (zaO I.fresh _) (zcV I.fresh (rp.append rp2))⟩
  ·cases hf
 ·cases hf
theorem zeT:OpR X (binaryOp .Sub) (VR2 X.K (zai .sub)):=by
 rintro pins s σ H x y v u Q I rx ry ⟨W,ds,r,wf,hs,hf,q⟩
 obtain⟨d,e,rfl,h1,h2⟩:=pr2 hs
 replace hf:zyc [d,e]=some r:=hf
 unfold zyc at hf
 split at hf
 ·rename_i a b z;cases z;cases hf
  cases h1.int;cases h2.int
  exact ztk pins s σ H _ _ v u Q I rx ry ⟨_,_,rfl,rfl,q _ H (.refl H) (.val (.int _))⟩
 ·cases hf
theorem zfF:OpR X (binaryOp .Mult) (VR2 X.K (zai .mul)):=by
 rintro pins s σ H x y v u Q I rx ry ⟨W,ds,r,wf,hs,hf,q⟩
 obtain⟨d,e,rfl,h1,h2⟩:=pr2 hs
 replace hf:ztC [d,e]=some r:=hf
 unfold ztC at hf
 split at hf
 ·rename_i a b z;cases z
  split at hf
  ·rename_i hc
   cases hf
   cases h1.int;cases h2.int
   exact ztl pins s σ H _ _ v u Q I rx ry ⟨_,_,rfl,rfl,hc,q _ H (.refl H) (.val (.int _))⟩
  ·cases hf
 ·cases hf
theorem zcW:OpR X (binaryOp .FloorDiv) (VR2 X.K (zai .fdiv)):=by
 rintro pins s σ H x y v u Q I rx ry ⟨W,ds,r,wf,hs,hf,q⟩
 obtain⟨d,e,rfl,h1,h2⟩:=pr2 hs
 replace hf:zpe [d,e]=some r:=hf
 unfold zpe at hf
 split at hf
 ·rename_i a b z;cases z
  split at hf
  ·rename_i hc
   cases hf
   cases h1.int;cases h2.int
   exact zrj pins s σ H _ _ v u Q I rx ry ⟨_,_,rfl,rfl,hc,q _ H (.refl H) (.val (.int _))⟩
  ·cases hf
 ·cases hf
theorem zci:OpR X (binaryOp .Mod) (VR2 X.K (zai .mod)):=by
 rintro pins s σ H x y v u Q I rx ry ⟨W,ds,r,wf,hs,hf,q⟩
 obtain⟨d,e,rfl,h1,h2⟩:=pr2 hs
 replace hf:zwk [d,e]=some r:=hf
 unfold zwk at hf
 split at hf
 ·rename_i a b z;cases z
  split at hf
  ·rename_i hc
   cases hf
   cases h1.int;cases h2.int
   exact ztm pins s σ H _ _ v u Q I rx ry ⟨_,_,rfl,rfl,hc,q _ H (.refl H) (.val (.int _))⟩
  ·cases hf
 ·cases hf
theorem zt0{A:Around}(hu:A.units+64<cLine){d e:D}(h:zby 8 d=true):A.units+min (zcu d).depth (zcu e).depth<cLine:=by
 have h1:=(zba 8 d h).2
 have h2:min (zcu d).depth (zcu e).depth<=(zcu d).depth:=Nat.min_le_left _ _
 omega
theorem zdL(hu:X.A.units+64<cLine):OpR X (compareOp .Eq) (VR2 X.K (zai .eq)):=by
 rintro pins s σ H x y v u Q I rx ry ⟨W,ds,r,wf,hs,hf,q⟩
 obtain⟨d,e,rfl,h1,h2⟩:=pr2 hs
 replace hf:pEq [d,e]=some r:=hf
 simp only[pEq] at hf
 split at hf
 ·rename_i hc
  rw[Bool.and_eq_true] at hc
  cases hf
  obtain⟨as,ra⟩:=h1.reads I hc.1 rx
  obtain⟨bs,rb⟩:=h2.reads I hc.2 ry
  refine SeqAt.compareEq_reads ra rb (zba 8 d hc.1).1 (zba 8 e hc.2).1 (zt0 hu hc.1) ?_
  rw[zfp]
  exact⟨.bl _,H,I,rfl,q _ H (.refl H) (.val (.bl _))⟩
 ·cases hf
theorem zrL(hu:X.A.units+64<cLine):OpR X (compareOp .NotEq) (VR2 X.K (zai .ne)):=by
 rintro pins s σ H x y v u Q I rx ry ⟨W,ds,r,wf,hs,hf,q⟩
 obtain⟨d,e,rfl,h1,h2⟩:=pr2 hs
 replace hf:pNe [d,e]=some r:=hf
 simp only[pNe] at hf
 split at hf
 ·rename_i hc
  rw[Bool.and_eq_true] at hc
  cases hf
  obtain⟨as,ra⟩:=h1.reads I hc.1 rx
  obtain⟨bs,rb⟩:=h2.reads I hc.2 ry
  refine SeqAt.compareNe_reads ra rb (zba 8 d hc.1).1 (zba 8 e hc.2).1 (zt0 hu hc.1) ?_
  rw[zfp]
  exact⟨.bl _,H,I,rfl,q _ H (.refl H) (.val (.bl _))⟩
 ·cases hf
theorem zpm{A:Around}(hu:A.units+64<cLine){d:D}{l:List PyData}(h:zby 8 d=true):A.units+1+min (PyData.depthAll l) (zcu d).depth<cLine:=by
 have h1:=(zba 8 d h).2
 have h2:min (PyData.depthAll l) (zcu d).depth<=(zcu d).depth:=Nat.min_le_right _ _
 omega
theorem zt1(hu:X.A.units+64<cLine):OpR X (compareOp .In) (VR2 X.K (zai .inn)):=by
 rintro pins s σ H x y v u Q I rx ry ⟨W,ds,r,wf,hs,hf,q⟩
 obtain⟨d,e,rfl,h1,h2⟩:=pr2 hs
 replace hf:pIn [d,e]=some r:=hf
 unfold pIn at hf
 split at hf
 ·rename_i x t ks vs z;cases z
  split at hf
  ·rename_i hk
   cases hf
   cases t with
   |false=>
    cases d with
    |int i=>
     cases h1.int
     obtain⟨a,ns,ys,rfl,rfl,hH,hl,_⟩:=h2.dK
     cases ry
     exact zzI (by omega) I (DGet.k (k:=.inl i) hH) rx fun s' I'=>⟨.bl _,H,I',rfl,q _ H (.refl H) (.val (by rw[zj7 hl];exact .bl _))⟩
    |_=>simp[zbW] at hk
   |true=>
    cases d with
    |tup l=>
     obtain⟨ms,hms⟩: ∃ms,ints? l=some ms:=by simp only[zbW,Option.isSome_iff_exists] at hk;exact hk
     obtain⟨b,xs,rfl,hb,rp⟩:=h1.tupH
     obtain⟨a,ns,ys,rfl,rfl,hH,hl,_⟩:=h2.dT
     cases ry
     have e1:=rp.ofInts hms
     have e2:=zeC hms
     subst e1 e2
     exact zzI (by omega) I (DGet.t (k:=ms.map Sum.inl) hH (by rw[hb,zhn])) rx fun s' I'=>⟨.bl _,H,I',rfl,q _ H (.refl H) (.val (by rw[zj8 hl];exact .bl _))⟩
    |_=>simp[zbW] at hk
  ·cases hf
 ·rename_i d l z;cases z
  split at hf
  ·rename_i hc
   rw[Bool.and_eq_true] at hc
   cases hf
   obtain⟨as,ra⟩:=h1.reads I hc.1 rx
   obtain⟨bs,rb⟩:=h2.readsT I hc.2 ry
   simp only[zcu] at rb
   refine SeqAt.in_tuple_reads rb ra (zdK (zba 8) l hc.2).1 (zba 8 d hc.1).1 (zpm hu hc.1) ?_
   rw[zcU]
   exact⟨.bl _,H,I,rfl,q _ H (.refl H) (.val (.bl _))⟩
  ·cases hf
 ·rename_i d l z;cases z
  split at hf
  ·rename_i hc
   rw[Bool.and_eq_true] at hc
   cases hf
   obtain⟨as,ra⟩:=h1.reads I hc.1 rx
   obtain⟨bs,rb⟩:=h2.readsL I hc.2 ry
   simp only[zcu] at rb
   refine SeqAt.in_list_reads rb ra (zdK (zba 8) l hc.2).1 (zba 8 d hc.1).1 (zpm hu hc.1) ?_
   rw[zcU]
   exact⟨.bl _,H,I,rfl,q _ H (.refl H) (.val (.bl _))⟩
  ·cases hf
 ·cases hf
theorem ziJ(hu:X.A.units+64<cLine):OpR X (compareOp .NotIn) (VR2 X.K (zai .nin)):=by
 rintro pins s σ H x y v u Q I rx ry ⟨W,ds,r,wf,hs,hf,q⟩
 obtain⟨d,e,rfl,h1,h2⟩:=pr2 hs
 replace hf:zry [d,e]=some r:=hf
 unfold zry at hf
 split at hf
 ·rename_i x t ks vs z;cases z
  split at hf
  ·rename_i hk
   cases hf
   cases t with
   |false=>
    cases d with
    |int i=>
     cases h1.int
     obtain⟨a,ns,ys,rfl,rfl,hH,hl,_⟩:=h2.dK
     cases ry
     exact zmR (by omega) I (DGet.k (k:=.inl i) hH) rx fun s' I'=>⟨.bl _,H,I',rfl,q _ H (.refl H) (.val (by rw[zj7 hl];exact .bl _))⟩
    |_=>simp[zbW] at hk
   |true=>
    cases d with
    |tup l=>
     obtain⟨ms,hms⟩: ∃ms,ints? l=some ms:=by simp only[zbW,Option.isSome_iff_exists] at hk;exact hk
     obtain⟨b,xs,rfl,hb,rp⟩:=h1.tupH
     obtain⟨a,ns,ys,rfl,rfl,hH,hl,_⟩:=h2.dT
     cases ry
     have e1:=rp.ofInts hms
     have e2:=zeC hms
     subst e1 e2
     exact zmR (by omega) I (DGet.t (k:=ms.map Sum.inl) hH (by rw[hb,zhn])) rx fun s' I'=>⟨.bl _,H,I',rfl,q _ H (.refl H) (.val (by rw[zj8 hl];exact .bl _))⟩
    |_=>simp[zbW] at hk
  ·cases hf
 ·rename_i d l z;cases z
  split at hf
  ·rename_i hc
   rw[Bool.and_eq_true] at hc
   cases hf
   obtain⟨as,ra⟩:=h1.reads I hc.1 rx
   obtain⟨bs,rb⟩:=h2.readsT I hc.2 ry
   simp only[zcu] at rb
   refine SeqAt.notIn_tuple_reads rb ra (zdK (zba 8) l hc.2).1 (zba 8 d hc.1).1 (zpm hu hc.1) ?_
   rw[zcU]
   exact⟨.bl _,H,I,rfl,q _ H (.refl H) (.val (.bl _))⟩
  ·cases hf
 ·rename_i d l z;cases z
  split at hf
  ·rename_i hc
   rw[Bool.and_eq_true] at hc
   cases hf
   obtain⟨as,ra⟩:=h1.reads I hc.1 rx
   obtain⟨bs,rb⟩:=h2.readsL I hc.2 ry
   simp only[zcu] at rb
   refine SeqAt.notIn_list_reads rb ra (zdK (zba 8) l hc.2).1 (zba 8 d hc.1).1 (zpm hu hc.1) ?_
   rw[zcU]
   exact⟨.bl _,H,I,rfl,q _ H (.refl H) (.val (.bl _))⟩
  ·cases hf
 ·cases hf
theorem zfq: ∀x y:List Int,LW.lexLt x y=HT.lexLt x y
 |[],[]=>rfl
 |[],_::_=>rfl
 |_::_,[]=>rfl
 |a::x,b::y=>by rw[HT.lexLt_cons,LW.lexLt,zfq x y]
theorem zpn(hu:X.A.units+64<cLine):OpR X (compareOp .Lt) (VR2 X.K (zai .lt)):=by
 rintro pins s σ H x y v u Q I rx ry ⟨W,ds,r,wf,hs,hf,q⟩
 obtain⟨d,e,rfl,h1,h2⟩:=pr2 hs
 replace hf:pLt [d,e]=some r:=hf
 unfold pLt at hf
 split at hf
 ·rename_i a b z;cases z;cases hf
  cases h1.int;cases h2.int
  exact zxX pins s σ H _ _ v u Q I rx ry ⟨_,_,rfl,rfl,q _ H (.refl H) (.val (.bl _))⟩
 ·rename_i a b z;cases z
  simp only[jo1] at hf
  obtain⟨ns,e1,ms,e2,hf⟩:=hf
  cases hf
  obtain⟨p,xs,rfl,hp,rp⟩:=h1.tup
  obtain⟨p2,xs2,rfl,hp2,rp2⟩:=h2.tup
  rw[rp.ofInts e1] at hp
  rw[rp2.ofInts e2] at hp2
  refine zts (by omega) pins s σ H _ _ v u Q I rx ry ⟨_,_,ns,ms,rfl,rfl,hp,hp2,?_⟩
  rw[<-zfq]
  exact q _ H (.refl H) (.val (.bl _))
 ·cases hf
theorem zpo:OpR X (compareOp .LtE) (VR2 X.K (zai .le)):=by
 rintro pins s σ H x y v u Q I rx ry ⟨W,ds,r,wf,hs,hf,q⟩
 obtain⟨d,e,rfl,h1,h2⟩:=pr2 hs
 replace hf:pLe [d,e]=some r:=hf
 unfold pLe at hf
 split at hf
 ·rename_i a b z;cases z;cases hf
  cases h1.int;cases h2.int
  exact zxY pins s σ H _ _ v u Q I rx ry ⟨_,_,rfl,rfl,q _ H (.refl H) (.val (.bl _))⟩
 ·cases hf
theorem zt2:OpR X (compareOp .Gt) (VR2 X.K (zai .gt)):=by
 rintro pins s σ H x y v u Q I rx ry ⟨W,ds,r,wf,hs,hf,q⟩
 obtain⟨d,e,rfl,h1,h2⟩:=pr2 hs
 replace hf:pGt [d,e]=some r:=hf
 unfold pGt at hf
 split at hf
 ·rename_i a b z;cases z;cases hf
  cases h1.int;cases h2.int
  exact zxZ pins s σ H _ _ v u Q I rx ry ⟨_,_,rfl,rfl,q _ H (.refl H) (.val (.bl _))⟩
 ·cases hf
theorem zt3(hu:X.A.units<cLine){pins:List (Addr×Obj)}{s:Shared}{σ:St}{H:Hp}{a b:Addr}{ns ms:List Int}{Q:VK}(I:Inv X pins σ H s)(ha:SqT X.K H a (ns.map V.int))(hb:SqT X.K H b (ms.map V.int))(q:Q (.bl (!HT.lexLt ns ms)) H):
  wpAny (model X.prog X.w) X.A (compareOp .GtE (.ref a) (.ref b)) (EP X pins σ Q) X.xe s:=by
 obtain⟨its,r1,p1,_⟩:=I.tuple ha
 obtain⟨its2,r2,p2,_⟩:=I.tuple hb
 have i1:IntsAre its.toArray.toList ns:=zbI r1
 have i2:IntsAre its2.toArray.toList ms:=zbI r2
 exact HT.ge_tupInts p1 p2 i1 i2 hu ⟨.bl (!HT.lexLt ns ms),H,I,rfl,q⟩
theorem zyy(hu:X.A.units+64<cLine):OpR X (compareOp .GtE) (VR2 X.K (zai .ge)):=by
 rintro pins s σ H x y v u Q I rx ry ⟨W,ds,r,wf,hs,hf,q⟩
 obtain⟨d,e,rfl,h1,h2⟩:=pr2 hs
 replace hf:pGe [d,e]=some r:=hf
 unfold pGe at hf
 split at hf
 ·rename_i a b z;cases z;cases hf
  cases h1.int;cases h2.int
  exact zx0 pins s σ H _ _ v u Q I rx ry ⟨_,_,rfl,rfl,q _ H (.refl H) (.val (.bl _))⟩
 ·rename_i a b z;cases z
  simp only[jo1] at hf
  obtain⟨ns,e1,ms,e2,hf⟩:=hf
  cases hf
  obtain⟨p,xs,rfl,hp,rp⟩:=h1.tup
  obtain⟨p2,xs2,rfl,hp2,rp2⟩:=h2.tup
  rw[rp.ofInts e1] at hp
  rw[rp2.ofInts e2] at hp2
  cases rx
  cases ry
  refine zt3 (by omega) I hp hp2 ?_
  rw[<-zfq]
  exact q _ H (.refl H) (.val (.bl _))
 ·cases hf
theorem zm9{K:PySem.W.Frag}{W:Addr->Prop}{H:Hp}{ds:List D}{xs:List V}{i:Int}{d:D}(r:Reps K W H ds xs)(h:LW.atI ds i=some d): ∃x,L2.atI xs i=some x/\Rep K W H d x:=by
 unfold LW.atI at h
 unfold L2.atI
 rw[jo1] at h
 obtain⟨j,h1,h2⟩:=h
 obtain⟨x,e,q⟩:=r.get h2
 refine⟨x,?_,q⟩
 rw[<-r.length]
 rw[jo1]
 exact⟨j,h1,e⟩
theorem zna{value slice:Expr}{pins:List (Addr×Obj)}{s:Shared}{σ:St}{H:Hp}{a:Addr}{y v:V}{u:Value}{Q:VK}(hu:X.A.units+64<cLine)(I:Inv X pins σ H s)(g:DGet H a y (some v))(ry:RelV y u)(q:Q v H)
  (hs:subscripted slice false (.ref a) u=operate [.ref a,u] (getItem (.ref a) u)):wpAny (model X.prog X.w) X.A (subscriptTail value slice (.ref a) u) (EP X pins σ Q) X.xe s:=by
 have hT:=zj3 I g
 unfold subscriptTail
 refine wpAny_bind ?_
 rw[getitemInPython_of_ne hT.not_modules]
 refine wpAny_bind (wpAny_specialOf hT PySem.F.slot_dict_getitem.lookup ?_)
 have fin:wpAny (model X.prog X.w) X.A (subscripted slice false (.ref a) u) (fun r s₃=>wpAny (model X.prog X.w) X.A (letTemporaryGo value (.ref a) r >>= fun _=>pure r) (EP X pins σ Q) X.xe s₃) X.xe s:=by
  rw[hs]
  refine wpAny_operating (wpAny_mono (zmQ (Q:=EP X pins σ Q) (by omega) I g ry fun w' s' I' rv=>⟨v,H,I',rv,q⟩) (fun r s₃ h₃=>wpAny_bind (wpAny_letTemporaryGo (wpAny_pure h₃))) fun _ _ x=>x)
 first
  |exact wpAny_pure (wpAny_bind fin)
  |exact wpAny_bind (wpAny_pure (wpAny_bind fin))
  |exact wpAny_pure (wpAny_bind (wpAny_pure (wpAny_bind fin)))
  |exact wpAny_bind (wpAny_bind (wpAny_pure fin))
theorem zt4(hu:X.A.units+64<cLine):IxR X (VR2 X.K (zai .idx)):=by
 rintro value slice pins s σ H x y v u Q I rx ry ⟨W,ds,r,wf,hs,hf,q⟩ hsub
 obtain⟨d,e,rfl,h1,h2⟩:=pr2 hs
 replace hf:zwl [d,e]=some r:=hf
 unfold zwl at hf
 split at hf
 ·rename_i t ks vs k z;cases z
  split at hf
  ·rename_i hk
   rw[jo2] at hf
   obtain⟨d',e1,rfl⟩:=hf
   cases t with
   |false=>
    cases e with
    |int i=>
     cases h2.int
     obtain⟨a,ns,ys,rfl,rfl,hH,hl,rp⟩:=h1.dK
     cases rx
     obtain⟨y,e2,ry'⟩:=zyw hl rp e1
     exact zna hu I (by rw[<-e2];exact DGet.k (k:=.inl i) hH) ry (q _ H (.refl H) (.val ry')) hsub
    |_=>simp[zbW] at hk
   |true=>
    cases e with
    |tup l=>
     obtain⟨ms,hms⟩: ∃ms,ints? l=some ms:=by simp only[zbW,Option.isSome_iff_exists] at hk;exact hk
     obtain⟨b,xs,rfl,hb,rpb⟩:=h2.tupH
     obtain⟨a,ns,ys,rfl,rfl,hH,hl,rp⟩:=h1.dT
     cases rx
     have z1:=rpb.ofInts hms
     have z2:=zeC hms
     subst z1 z2
     obtain⟨y,e2,ry'⟩:=zyx hl rp e1
     exact zna hu I (by rw[<-e2];exact DGet.t (k:=ms.map Sum.inl) hH (by rw[hb,zhn])) ry (q _ H (.refl H) (.val ry')) hsub
    |_=>simp[zbW] at hk
  ·cases hf
 ·rename_i l i z;cases z
  rw[jo2] at hf
  obtain⟨d,e1,rfl⟩:=hf
  obtain⟨p,xs,rfl,hp,rp⟩:=h1.tup
  cases h2.int
  obtain⟨z,e2,rz⟩:=zm9 rp e1
  exact ztt value slice pins s σ H _ _ v u Q I rx ry ⟨p,xs,i,z,rfl,rfl,hp,e2,q _ H (.refl H) (.val rz)⟩ hsub
 ·rename_i l i z;cases z
  rw[jo2] at hf
  obtain⟨d,e1,rfl⟩:=hf
  obtain⟨p,xs,rfl,hp,rp⟩:=h1.lst
  cases h2.int
  obtain⟨z,e2,rz⟩:=zm9 rp e1
  exact zrr value slice pins s σ H _ _ v u Q I rx ry ⟨p,xs,i,z,rfl,rfl,hp,e2,q _ H (.refl H) (.val rz)⟩ hsub
 ·cases hf
theorem zdu:CallR X (.builtin "len") (VR X.K (zai .len)):=by
 rintro pins s σ H xs us Q I rv ⟨W,ds,r,wf,hs,hf,q⟩
 replace hf:zyd ds=some r:=hf
 unfold zyd at hf
 split at hf
 ·cases hf
  cases hs with
  |cons h1 t=>
   cases t
   obtain⟨p,ys,rfl,hp,rp⟩:=h1.tup
   refine zeP pins s σ H _ us Q I rv ⟨p,ys,rfl,.inr hp,?_⟩
   rw[<-rp.length]
   exact q _ H (.refl H) (.val (.int _))
 ·cases hf
  cases hs with
  |cons h1 t=>
   cases t
   obtain⟨p,ys,rfl,hp,rp⟩:=h1.lst
   refine zeP pins s σ H _ us Q I rv ⟨p,ys,rfl,.inl hp,?_⟩
   rw[<-rp.length]
   exact q _ H (.refl H) (.val (.int _))
 ·cases hf
theorem zgS:CallR X (.builtin "abs") (VR X.K (zai .abs)):=by
 rintro pins s σ H xs us Q I rv ⟨W,ds,r,wf,hs,hf,q⟩
 replace hf:zye ds=some r:=hf
 unfold zye at hf
 split at hf
 ·cases hf
  cases hs with
  |cons h1 t=>
   cases t
   cases h1.int
   exact zo7 pins s σ H _ us Q I rv ⟨_,rfl,q _ H (.refl H) (.val (.int _))⟩
 ·cases hf
theorem zrM(hc:X.calm=true):CallR X (.builtin "min") (VR X.K (zai .min2)):=by
 rintro pins s σ H xs us Q I rv ⟨W,ds,r,wf,hs,hf,q⟩
 replace hf:zrz ds=some r:=hf
 unfold zrz at hf
 split at hf
 ·cases hf
  cases hs with
  |cons h1 t=>
   cases t with
   |cons h2 t=>
    cases t
    cases h1.int;cases h2.int
    exact zmI hc pins s σ H _ us Q I rv ⟨_,_,rfl,q _ H (.refl H) (.val (.int _))⟩
 ·cases hf
theorem zrN(hc:X.calm=true):CallR X (.builtin "max") (VR X.K (zai .max2)):=by
 rintro pins s σ H xs us Q I rv ⟨W,ds,r,wf,hs,hf,q⟩
 replace hf:zrA ds=some r:=hf
 unfold zrA at hf
 split at hf
 ·cases hf
  cases hs with
  |cons h1 t=>
   cases t with
   |cons h2 t=>
    cases t
    cases h1.int;cases h2.int
    exact zmH hc pins s σ H _ us Q I rv ⟨_,_,rfl,q _ H (.refl H) (.val (.int _))⟩
 ·cases hf
theorem zfG:CallR X (.type "list") (VR X.K (zai .toList)):=by
 rintro pins s σ H xs us Q I rv ⟨W,ds,r,wf,hs,hf,q⟩
 replace hf:zj5 ds=some r:=hf
 unfold zj5 at hf
 split at hf
 ·cases hf
  cases hs with
  |cons h1 t=>
   cases t
   obtain⟨p,ys,rfl,hp,rp⟩:=h1.tup
   exact zeQ pins s σ H _ us Q I rv ⟨p,ys,rfl,.inr hp,fun l hl=>q _ _ (zaO hl _) (zcV hl rp)⟩
 ·cases hf
  cases hs with
  |cons h1 t=>
   cases t
   obtain⟨p,ys,rfl,hp,rp⟩:=h1.lst
   exact zeQ pins s σ H _ us Q I rv ⟨p,ys,rfl,.inl hp,fun l hl=>q _ _ (zaO hl _) (zcV hl rp)⟩
 ·cases hf
theorem zpp:CallR X (.type "tuple") (VR X.K (zai .toTup)):=by
 rintro pins s σ H xs us Q I rv ⟨W,ds,r,wf,hs,hf,q⟩
 replace hf:zmW ds=some r:=hf
 unfold zmW at hf
 split at hf
 ·cases hf
  cases hs with
  |cons h1 t=>
   cases t
   obtain⟨p,ys,rfl,hp,rp⟩:=h1.tupH
   exact zdY pins s σ H _ us Q I rv ⟨p,ys,rfl,.inr ⟨.of hp,q _ H (.refl H) (.val (.tup hp rp))⟩⟩
 ·cases hf
  cases hs with
  |cons h1 t=>
   cases t
   obtain⟨p,ys,rfl,hp,rp⟩:=h1.lst
   exact zdY pins s σ H _ us Q I rv ⟨p,ys,rfl,.inl ⟨hp,fun l hl=>q _ _ (zaO hl _) (zm6 hl rp)⟩⟩
 ·cases hf
end
end L2.LW
set_option maxHeartbeats 4000000
namespace L2.LW
open PySem PySem.Spec PyProof.Rows
structure IE (X:Cx)(fn:Nat->List D->Option SV)(e:Expr)(c:E):Prop where
 h:PE X e (tE X.K fn c)
structure IA (X:Cx)(fn:Nat->List D->Option SV)(es:List Expr)(cs:Es):Prop where
 h:PA X es (tVs X.K fn cs)
structure IT (X:Cx)(fn:Nat->List D->Option SV)(e:Expr)(c:E):Prop where
 h:PT X e (tT X.K fn c)
structure IW (X:Cx)(fn:Nat->List D->Option SV)(e:Expr)(c:E):Prop where
 h:PW X e (tT X.K fn c)
theorem Res.back{K:PySem.W.Frag}{W:Addr->Prop}{H H1 H2:Hp}{r:SV}{v:V}(h:Res K W H1 H2 r v)(s:Same H H1):Res K W H H2 r v:=by
 cases h with
 |val h=>exact .val h
 |new h e r=>exact .new (s.free h) e r
 |see h e r=>exact .see h e r
theorem R.wf'{K:PySem.W.Frag}{W:Addr->Prop}{ρ:LW.Env}{σ:St}{H H':Hp}(r:R K W ρ σ H)(s:Same H H'):Wf W H':=(r.same s).wf
theorem zho{K:PySem.W.Frag}{W:Addr->Prop}{H:Hp}: ∀{rs:List SV} {vs:List V},Paired (Frz K W H) rs vs->Paired (Sees K W H) (rs.map zbH) vs
 |_,_,.nil=>.nil
 |_,_,.cons h t=>.cons h.sees (zho t)
theorem zhp{K:PySem.W.Frag}{W:Addr->Prop}{H:Hp}: ∀{rs:List SV} {vs:List V} {ds:List D},Paired (Frz K W H) rs vs->ziF rs=some ds->Reps K W H ds vs
 |_,_,_,.nil,e=>by simp[ziF] at e;subst e;exact .nil
 |_,_,_,.cons h t,e=>by
  simp only[ziF,jo1,jo2] at e
  obtain⟨d,e1,ds,e2,rfl⟩:=e
  exact .cons (h.toD e1) (zhp t e2)
section
variable {es:List Expr} {env:PySem.Env}
theorem zab{a b}:starEach (.Name a b::es) env=(false,eval (.Name a b) env)::starEach es env:=rfl
theorem zac{a b c}:starEach (.Constant a b c::es) env=(false,eval (.Constant a b c) env)::starEach es env:=rfl
theorem zax{a b c d}:starEach (.BinOp a b c d::es) env=(false,eval (.BinOp a b c d) env)::starEach es env:=rfl
theorem zas{a b c d}:starEach (.Call a b c d::es) env=(false,eval (.Call a b c d) env)::starEach es env:=rfl
theorem zah{a b c}:starEach (.Subscript a b c::es) env=(false,eval (.Subscript a b c) env)::starEach es env:=rfl
theorem zaD{a b c}:starEach (.Tuple a b c::es) env=(false,eval (.Tuple a b c) env)::starEach es env:=rfl
theorem znb{a b c}:starEach (.Dict a b c::es) env=(false,eval (.Dict a b c) env)::starEach es env:=rfl
theorem ziK{a b}:starEach (.List a b::es) env=(false,eval (.List a b) env)::starEach es env:=rfl
theorem zaV{a b c d}:starEach (.ListComp a b c d::es) env=(false,eval (.ListComp a b c d) env)::starEach es env:=rfl
theorem zam{pos:Pos}:(backTo pos (starEach [] env)).any (·.1)=false:=rfl
theorem zak{pos:Pos}{e:Expr}(h:starEach (e::es) env=(false,eval e env)::starEach es env)(t:(backTo pos (starEach es env)).any (·.1)=false):(backTo pos (starEach (e::es) env)).any (·.1)=false:=by
 rw[h];simpa [backTo] using t
theorem znc{a b}: ∀whole,isTrue (.Name a b) env whole=(do let v <-whole;standAt (Expr.Name a b).pos;holding [v] (truthy v)):=fun _=>rfl
theorem zbR{a b c d}: ∀whole,isTrue (.Call a b c d) env whole=(do let v <-whole;standAt (Expr.Call a b c d).pos;holding [v] (truthy v)):=fun _=>rfl
end
section
variable {X:Cx} {fn:Nat->List D->Option SV} {a b c e:Expr} {ca cb cc ce:E} {es:List Expr} {cs:Es} {pos p:Pos} {x:Str}
theorem IE.v(h:IE X fn e ce):PE X e (tV X.K fn ce):=h.h.imp fun σ H Q ⟨W,ρ,r,hR,he,q⟩=>⟨W,ρ,r,hR,he,fun v H' s x=>q v H' s (x.frz hR.wf)⟩
theorem zal{i:Int}{j:Nat}:IE X fn (.Constant (.int i) j pos) (.int i):=.mk <| zs9.imp fun σ H Q zz3=>by
 obtain⟨W,ρ,r,hR,he,q⟩:=zz3
 simp only[zqv] at he;cases he;exact q _ H (.refl H) (.val (.int i))
theorem zoY{i:Bool}{j:Nat}:IE X fn (.Constant (.bool i) j pos) (.bl i):=.mk <| zxN.imp fun σ H Q zz3=>by
 obtain⟨W,ρ,r,hR,he,q⟩:=zz3
 simp only[zyr] at he;cases he;exact q _ H (.refl H) (.val (.bl i))
theorem zpq{i:Str}{j:Nat}:IE X fn (.Constant (.str i) j pos) (.str i):=.mk <| zta.imp fun σ H Q zz3=>by
 obtain⟨W,ρ,r,hR,he,q⟩:=zz3
 simp only[ztN] at he;cases he;exact q _ H (.refl H) (.val (.str i))
theorem zae(i:Nat)(hN:X.N[i]? =some x)(hv:Vis X.env.scope x)(hd:(x==("__debug__":Str))=false:=by decide)(hcd:(x==("__classdict__":Str))=false:=by decide):IE X fn (.Name x pos) (.var i):=
 .mk <| (zfz hN hv hd hcd).imp fun σ H Q zz3=>by
  obtain⟨W,ρ,r,hR,he,q⟩:=zz3
  simp only[ztO] at he
  obtain⟨v,h1,_,h3⟩:=hR.look he
  exact⟨v,h1,q v H (.refl H) h3⟩
theorem zhq{i:Int}{t:Tok}(hg:Gl X x)(hm:X.mg x=some (.int i t))(hd:(x==("__debug__":Str))=false:=by decide):IE X fn (.Name x pos) (.int i):=
 .mk <| (zrd hg hm (v:=.int i) ⟨t,rfl⟩ hd).imp fun σ H Q zz3=>by
  obtain⟨W,ρ,r,hR,he,q⟩:=zz3
  simp only[zqv] at he;cases he;exact q _ H (.refl H) (.val (.int i))
theorem zao:IA X fn [] .nil:=.mk <| zgM.imp fun σ H Q zz3=>by
 obtain⟨W,ρ,rs,hR,he,q⟩:=zz3
 simp only[zcF] at he;cases he;exact q _ H (.refl H) .nil
theorem zad(ha:IE X fn e ce)(hr:IA X fn es cs)(hs:starEach (e::es) X.env=(false,eval e X.env)::starEach es X.env:=by rfl):IA X fn (e::es) (.cons ce cs):=
 .mk <| (zct ha.v hr.h hs).imp fun σ H Q zz3=>by
  obtain⟨W,ρ,rs,hR,he,q⟩:=zz3
  simp only[zbX,jo1,jo2] at he
  obtain⟨r,e1,rs',e2,rfl⟩:=he
  exact⟨W,ρ,r,hR,e1,fun v H1 s1 f1=>⟨W,ρ,rs',hR.same s1,e2,fun vs H2 s2 f2=>q _ H2 (s1.trans s2) (.cons (f1.same s2) f2)⟩⟩
theorem zj9{K:PySem.W.Frag}{p:Prim}{W:Addr->Prop}{ρ:LW.Env}{σ:St}{H H1:Hp}{Q:VK}{rs:List SV}{vs:List V}{r:SV}(hR:R K W ρ σ H)(s1:Same H H1)(f:Paired (Frz K W H1) rs vs)
  (e:zai p (rs.map zbH)=some r) (q: ∀v H',Same H H'->Res K W H H' r v->Q v H'):VR K (zai p) vs H1 Q:=
 ⟨W,rs.map zbH,r,hR.wf' s1,zho f,e,fun v H' s2 h=>q v H' (s1.trans s2) (h.back s1)⟩
theorem zkT{K:PySem.W.Frag}{p:Prim}{ρ:LW.Env}{σ:St}{H:Hp}{Q:VK}{W:Addr->Prop}{r:SV}(hR:R K W ρ σ H)(he:evE fn (.prim p (.cons ca (.cons cb .nil))) ρ=some r)(q: ∀v H',Same H H'->Res K W H H' r v->Q v H'):
  tOp (VR2 K (zai p)) (tV K fn ca) (tV K fn cb) σ H Q:=by
 simp only[zcT,zcF,zbX,jo1,jo2] at he
 obtain⟨rs,⟨r1,e1,rs',⟨r2,e2,rs'',e3,rfl⟩,rfl⟩,e4⟩:=he
 cases e3
 exact⟨W,ρ,r1,hR,e1,fun v1 H1 s1 f1=>⟨W,ρ,r2,hR.same s1,e2,fun v2 H2 s2 f2=>zj9 hR (s1.trans s2) (.cons (f1.same s2) (.cons f2 .nil)) e4 q⟩⟩
theorem zbF{op:Operator}{pr:Prim}(ho:OpR X (binaryOp op) (VR2 X.K (zai pr)))(ha:IE X fn a ca)(hb:IE X fn b cb):IE X fn (.BinOp a op b pos) (.prim pr (.cons ca (.cons cb .nil))):=
 .mk <| (zxU ho ha.v hb.v).imp fun σ H Q ⟨W,ρ,r,hR,he,q⟩=>zkT hR he q
theorem zhr{op:CmpOp}{pr:Prim}(ho:OpR X (compareOp op) (VR2 X.K (zai pr)))(ha:IE X fn a ca)(hb:IE X fn b cb)(hm:behindInMarks op b=false):IE X fn (.Compare a [op] [b] pos) (.prim pr (.cons ca (.cons cb .nil))):=
 .mk <| (zrk ho ha.v hb.v hm).imp fun σ H Q ⟨W,ρ,r,hR,he,q⟩=>zkT hR he q
theorem zbQ(hu:X.A.units+64<cLine)(ha:IE X fn a ca)(hb:IE X fn b cb)(hs:zmO b):IE X fn (.Subscript a b pos) (.prim .idx (.cons ca (.cons cb .nil))):=
 .mk <| (zx6 (zt4 hu) ha.v hb.v hs).imp fun σ H Q ⟨W,ρ,r,hR,he,q⟩=>zkT hR he q
theorem znd{K:PySem.W.Frag}{pr:Prim}{ρ:LW.Env}{σ:St}{H:Hp}{Q:VK}{W:Addr->Prop}{r:SV}(hR:R K W ρ σ H)(he:evE fn (.prim pr cs) ρ=some r)(q: ∀v H',Same H H'->Res K W H H' r v->Q v H'):
  tCB (VR K (zai pr)) (tVs K fn cs) σ H Q:=by
 simp only[zcT,jo1] at he
 obtain⟨rs,e1,e2⟩:=he
 exact⟨W,ρ,rs,hR,e1,fun vs H1 s1 f=>zj9 hR s1 f e2 q⟩
theorem zaP{id:String}{pr:Prim}(hc:CallR X (.builtin id) (VR X.K (zai pr)))(hg:Gl X x)(hm:X.mg x=none)(hv:bootBuiltins x=some (.builtin id))(ha:IA X fn (e::es) cs)(hn:x≠"__name__":=by decide)(hdb:(x==("__debug__":Str))=false:=by decide)
  (he:starEach (e::es) X.env=(false,eval e X.env)::starEach es X.env:=by rfl) (hpl:(backTo pos (starEach es X.env)).any (·.1)=false:=by rfl):IE X fn (.Call (.Name x p) (e::es) [] pos) (.prim pr cs):=
 .mk <| (zhg hc hg hm hv ha.h hn hdb he hpl).imp fun σ H Q ⟨W,ρ,r,hR,h,q⟩=>znd hR h q
theorem zfr{T:String}{pr:Prim}(hc:CallR X (.type T) (VR X.K (zai pr)))(hg:Gl X x)(hm:X.mg x=none)(hv:bootBuiltins x=some (.type T))(ha:IA X fn (e::es) cs)(hn:x≠"__name__":=by decide)(hdb:(x==("__debug__":Str))=false:=by decide)
  (he:starEach (e::es) X.env=(false,eval e X.env)::starEach es X.env:=by rfl) (hpl:(backTo pos (starEach es X.env)).any (·.1)=false:=by rfl):IE X fn (.Call (.Name x p) (e::es) [] pos) (.prim pr cs):=
 .mk <| (ziz hc hg hm hv ha.h hn hdb he hpl).imp fun σ H Q ⟨W,ρ,r,hR,h,q⟩=>znd hR h q
theorem zhs{K:PySem.W.Frag}{W:Addr->Prop}{H:Hp}: ∀{rs:List SV} {ds:List D},ziF rs=some ds->ds.length=rs.length
 |[],_,e=>by simp[ziF] at e;subst e;rfl
 |r::rs,_,e=>by
  simp only[ziF,jo1,jo2] at e
  obtain⟨d,e1,ds,e2,rfl⟩:=e
  simp[zhs (K:=K) (W:=W) (H:=H) e2]
noncomputable def zne:Es->Nat
 | .nil=>0
 | .cons _ r=>zne r+1
theorem zht: ∀{cs:Es} {ρ:LW.Env} {rs:List SV},zcx fn cs ρ=some rs->rs.length=zne cs
 | .nil,_,_,e=>by simp only[zcF] at e;cases e;rfl
 | .cons c cs,_,_,e=>by
  simp only[zbX,jo1,jo2] at e
  obtain⟨r,e1,rs',e2,rfl⟩:=e
  simp[zne,zht e2]
theorem zbL{k:Nat}(h:IA X fn es cs)(hl:zne cs<=1000:=by decide):IE X fn (.Tuple es k pos) (.tup cs):=
 .mk <| (ztp h.h).imp fun σ H Q zz3=>by
  obtain⟨W,ρ,r,hR,he,q⟩:=zz3
  simp only[ztP,jo1,jo2] at he
  obtain⟨rs,e1,ds,e2,rfl⟩:=he
  refine⟨W,ρ,rs,hR,e1,fun vs H1 s1 f=>?_⟩
  have r1:=zhp f e2
  have l1:=r1.length
  have l2:=zhs (K:=X.K) (W:=W) (H:=H) e2
  have l3:=zht e1
  exact⟨Nat.le_of_lt (zcS (by omega)),fun p hp=>q _ _ (s1.trans (zaO hp _)) ((zm6 hp r1).back s1)⟩
theorem zgu(h:IA X fn es cs)(hl:zne cs<=1000:=by decide):IE X fn (.List es pos) (.lst cs):=
 .mk <| (ztq h.h).imp fun σ H Q zz3=>by
  obtain⟨W,ρ,r,hR,he,q⟩:=zz3
  simp only[ztQ,jo1,jo2] at he
  obtain⟨rs,e1,ds,e2,rfl⟩:=he
  refine⟨W,ρ,rs,hR,e1,fun vs H1 s1 f=>?_⟩
  have r1:=zhp f e2
  have l1:=r1.length
  have l2:=zhs (K:=X.K) (W:=W) (H:=H) e2
  have l3:=zht e1
  exact⟨Nat.le_of_lt (zcS (by omega)),fun p hp=>q _ _ (s1.trans (zaO hp _)) ((zcV hp r1).back s1)⟩
theorem znf{op:BoolOp}(h:IE X fn a ca):IE X fn (.BoolOp op [a] pos) ca:=.mk (zte h.h)
theorem ziL{zch:List Expr}(ha:IE X fn a ca)(hb:IE X fn (.BoolOp .And (b::zch) pos) cb):IE X fn (.BoolOp .And (a::b::zch) pos) (.and ca cb):=
 .mk <| (ztf ha.h hb.h).imp fun σ H Q zz3=>by
  obtain⟨W,ρ,r,hR,he,q⟩:=zz3
  simp only[ztR,jo1] at he
  obtain⟨r1,e1,e2⟩:=he
  refine⟨W,ρ,r1,hR,e1,fun v H1 s1 f=>?_⟩
  split at e2
  ·cases f with
   |val h=>
    cases h
    exact⟨true,rfl,by rw[if_pos rfl];exact⟨W,ρ,r,hR.same s1,e2,fun v H2 s2 h=>q v H2 (s1.trans s2) (h.back s1)⟩⟩
  ·cases f with
   |val h=>
    cases h;cases e2
    exact⟨false,rfl,by rw[if_neg Bool.false_ne_true];exact q _ H1 s1 (.val (.bl false))⟩
  ·cases e2
theorem zrO{op op':CmpOp}{p q:Prim}(ho:OpR X (compareOp op) (VR2 X.K (zai p)))(ho':OpR X (compareOp op') (VR2 X.K (zai q)))(ha:IE X fn a ca)(hb:IE X fn b cb)(hc:IE X fn c cc)
  (hm:lastMarks [op,op'] [b,c]=false:=by with_unfolding_all rfl):IE X fn (.Compare a [op,op'] [b,c] pos) (.chain p q ca cb cc):=
 .mk <| (zo5 ho ho' ha.v hb.v hc.v hm).imp fun σ H Q zz3=>by
  obtain⟨W,ρ,r,hR,he,hq⟩:=zz3
  simp only[zph,jo1] at he
  obtain⟨r1,e1,r2,e2,z,e3,e4⟩:=he
  refine⟨W,ρ,r1,hR,e1,fun v1 H1 s1 f1=>⟨W,ρ,r2,hR.same s1,e2,fun v2 H2 s2 f2=>?_⟩⟩
  refine⟨W,_,z,hR.wf' (s1.trans s2),.cons (f1.same s2).sees (.cons f2.sees .nil),e3,fun v H3 s3 h3=>?_⟩
  split at e4
  ·cases h3 with
   |val h3=>
    cases h3
    simp only[jo1] at e4
    obtain⟨r3,e5,e6⟩:=e4
    refine⟨true,rfl,?_⟩
    rw[if_pos rfl]
    have s13:=(s1.trans s2).trans s3
    refine⟨W,ρ,r3,hR.same s13,e5,fun v4 H4 s4 f4=>?_⟩
    exact⟨W,_,r,hR.wf' (s13.trans s4),.cons ((f2.same s3).same s4).sees (.cons f4.sees .nil),e6,fun v5 H5 s5 h5=>hq v5 H5 (s13.trans (s4.trans s5)) (h5.back (s13.trans s4))⟩
  ·cases h3 with
   |val h3=>
    cases h3;cases e4
    exact⟨false,rfl,by rw[if_neg Bool.false_ne_true];exact hq _ H3 ((s1.trans s2).trans s3) (.val (.bl false))⟩
  ·cases e4
theorem IW.t(h:IW X fn e ce):IT X fn e ce:=.mk (PW.pt h.h)
theorem zng(h:IT X fn a ca):IW X fn (.BoolOp .And [a] pos) ca:=.mk (zrf h.h)
theorem zlS(h:IT X fn a ca):IW X fn (.BoolOp .Or [a] pos) ca:=.mk (zqn h.h)
theorem zrP{zch:List Expr}(ha:IT X fn a ca)(hb:IW X fn (.BoolOp .And (b::zch) pos) cb):IW X fn (.BoolOp .And (a::b::zch) pos) (.and ca cb):=
 .mk <| (ztb ha.h hb.h).imp fun σ H Q zz3=>by
  obtain⟨W,ρ,k,hR,he,q⟩:=zz3
  simp only[ztS,jo1] at he
  obtain⟨k1,e1,e2⟩:=he
  refine⟨W,ρ,k1,hR,e1,fun H1 s1=>?_⟩
  cases k1 with
  |true=>rw[if_pos rfl] at e2⊢;exact⟨W,ρ,k,hR.same s1,e2,fun H2 s2=>q H2 (s1.trans s2)⟩
  |false=>rw[if_neg Bool.false_ne_true] at e2⊢;cases e2;exact q H1 s1
theorem zrQ{zch:List Expr}(ha:IT X fn a ca)(hb:IW X fn (.BoolOp .Or (b::zch) pos) cb):IW X fn (.BoolOp .Or (a::b::zch) pos) (.or ca cb):=
 .mk <| (ztc ha.h hb.h).imp fun σ H Q zz3=>by
  obtain⟨W,ρ,k,hR,he,q⟩:=zz3
  simp only[zys,jo1] at he
  obtain⟨k1,e1,e2⟩:=he
  refine⟨W,ρ,k1,hR,e1,fun H1 s1=>?_⟩
  cases k1 with
  |true=>rw[if_pos rfl] at e2⊢;cases e2;exact q H1 s1
  |false=>rw[if_neg Bool.false_ne_true] at e2⊢;exact⟨W,ρ,k,hR.same s1,e2,fun H2 s2=>q H2 (s1.trans s2)⟩
theorem zhu(ha:IT X fn a ca):IT X fn (.UnaryOp .Not a pos) (.not ca):=
 .mk <| (ztd ha.h).imp fun σ H Q zz3=>by
  obtain⟨W,ρ,k,hR,he,q⟩:=zz3
  simp only[ztT,jo2] at he
  obtain⟨k1,e1,rfl⟩:=he
  exact⟨W,ρ,k1,hR,e1,fun H1 s1=>q H1 s1⟩
noncomputable def zhv:Prim->Bool
 | .eq=>true| .ne=>true| .lt=>true| .le=>true| .gt=>true| .ge=>true| .inn=>true| .nin=>true| .isN=>true| .notN=>true| .eqS=>true| .neS=>true
 |_=>false
theorem zka{b:Bool}{r:SV}(h:zeR b=some r):r= .val (.bl b):=by cases h;rfl
theorem zgT{p:Prim}(hp:zhv p=true){ds:List D}{r:SV}(h:zai p ds=some r): ∃b,r= .val (.bl b):=by
 cases p<;>first|cases hp|skip
 all_goals
  simp only[zai] at h
  first|unfold zwm at h|unfold zwn at h|unfold pEq at h|unfold pNe at h|unfold pLt at h|unfold pLe at h|unfold pGt at h|unfold pGe at h|unfold pIn at h|unfold zry at h|unfold zzK at h|unfold ztD at h
  split at h
  all_goals first
   |exact⟨_,zka h⟩
   |cases h
   |(split at h<;>first|exact⟨_,zka h⟩|cases h)
   |(simp only[jo1] at h;obtain⟨_,_,_,_,h⟩:=h;exact⟨_,zka h⟩)
theorem zbS{op:CmpOp}{pr:Prim}(hp:zhv pr=true)(ho:OpR X (compareOp op) (VR2 X.K (zai pr)))(ha:IE X fn a ca)(hb:IE X fn b cb)(hm:behindInMarks op b=false):IT X fn (.Compare a [op] [b] pos) (.prim pr (.cons ca (.cons cb .nil))):=
 .mk <| (zrl ho ha.v hb.v hm).imp fun σ H Q zz3=>by
  obtain⟨W,ρ,k,hR,he,q⟩:=zz3
  have he':(evE fn (.prim pr (.cons ca (.cons cb .nil))) ρ).bind zbw=some k:=by
   rw[zm2] at he
   rw[zcT]
   simp only[jo1] at he⊢
   obtain⟨rs,e1,r,e2,e3⟩:=he
   exact⟨r,⟨rs,e1,e2⟩,e3⟩
  rw[jo1] at he'
  obtain⟨r,e1,e2⟩:=he'
  have e1':=e1
  rw[zcT] at e1'
  simp only[jo1] at e1'
  obtain⟨rs,_,e3⟩:=e1'
  obtain⟨b,rfl⟩:=zgT hp e3
  simp only[zbw] at e2
  cases e2
  exact zkT hR e1 fun v H' s h=>by
   cases h with
   |val h=>cases h;exact⟨_,rfl,q H' s⟩
theorem zrR{op op':CmpOp}{p q:Prim}(hp:zhv p=true)(hq':zhv q=true)(ho:OpR X (compareOp op) (VR2 X.K (zai p)))(ho':OpR X (compareOp op') (VR2 X.K (zai q)))(ha:IE X fn a ca)(hb:IE X fn b cb)(hc:IE X fn c cc)
  (hm:lastMarks [op,op'] [b,c]=false:=by with_unfolding_all rfl):IT X fn (.Compare a [op,op'] [b,c] pos) (.chain p q ca cb cc):=
 .mk <| (zo6 ho ho' ha.v hb.v hc.v hm).imp fun σ H Q zz3=>by
  obtain⟨W,ρ,k,hR,he,hq⟩:=zz3
  simp only[zpi,jo1] at he
  obtain⟨r1,e1,r2,e2,z,e3,e4⟩:=he
  refine⟨W,ρ,r1,hR,e1,fun v1 H1 s1 f1=>⟨W,ρ,r2,hR.same s1,e2,fun v2 H2 s2 f2=>?_⟩⟩
  refine⟨W,_,z,hR.wf' (s1.trans s2),.cons (f1.same s2).sees (.cons f2.sees .nil),e3,fun v H3 s3 h3=>?_⟩
  split at e4
  ·cases h3 with
   |val h3=>
    cases h3
    simp only[jo1] at e4
    obtain⟨r3,e5,r4,e6,e7⟩:=e4
    refine⟨true,rfl,?_⟩
    rw[if_pos rfl]
    have s13:=(s1.trans s2).trans s3
    refine⟨W,ρ,r3,hR.same s13,e5,fun v4 H4 s4 f4=>?_⟩
    refine⟨W,_,r4,hR.wf' (s13.trans s4),.cons ((f2.same s3).same s4).sees (.cons f4.sees .nil),e6,fun v5 H5 s5 h5=>?_⟩
    obtain⟨b5,rfl⟩:=zgT hq' e6
    simp only[zbw] at e7
    cases e7
    cases h5 with
    |val h5=>cases h5;exact⟨_,rfl,hq H5 (s13.trans (s4.trans s5))⟩
  ·cases h3 with
   |val h3=>
    cases h3;cases e4
    exact⟨false,rfl,by rw[if_neg Bool.false_ne_true];exact⟨false,rfl,hq H3 ((s1.trans s2).trans s3)⟩⟩
  ·cases e4
theorem znh{K:PySem.W.Frag}{W:Addr->Prop}{H:Hp}{r:SV}{v:V}{k:Bool}(f:Frz K W H r v)(h:zbw r=some k):zx1 K v H k:=by
 unfold zbw at h
 split at h
 ·cases h;cases f with|val f=>cases f;rfl
 ·cases h;cases f with|val f=>cases f;rfl
 ·cases h;cases f with|val f=>cases f;rfl
 ·rename_i l
  cases h
  obtain⟨a,xs,rfl,hq,rp⟩:=Frz.sees f |>.tup
  refine .inr (.inl ⟨xs,hq,?_⟩)
  cases rp<;>rfl
 ·cases h
  obtain⟨a,xs,rfl,hq,rp⟩:=Frz.sees f |>.lst
  refine .inl ⟨xs,hq,?_⟩
  cases rp<;>rfl
 ·cases h
  obtain⟨a,xs,rfl,hq,rp⟩:=Frz.sees f |>.lst
  refine .inl ⟨xs,hq,?_⟩
  cases rp<;>rfl
 ·cases h
theorem zeD(hE:IE X fn e ce)(hev: ∀ρ,evT fn ce ρ=(evE fn ce ρ).bind zbw)(he: ∀whole,isTrue e X.env whole=(do let v <-whole;standAt e.pos;holding [v] (truthy v)):=by intro _;rfl):IT X fn e ce:=
 .mk <| (zkJ hE.v he).imp fun σ H Q zz3=>by
  obtain⟨W,ρ,k,hR,ht,q⟩:=zz3
  rw[hev,jo1] at ht
  obtain⟨r,e1,e2⟩:=ht
  exact⟨W,ρ,r,hR,e1,fun v H1 s1 f=>⟨k,znh f e2,q H1 s1⟩⟩
theorem zqB(i:Nat): ∀ρ,evT fn (.var i) ρ=(evE fn (.var i) ρ).bind zbw:=fun ρ=>id rfl
theorem zfH(p:Prim)(cs:Es): ∀ρ,evT fn (.prim p cs) ρ=(evE fn (.prim p cs) ρ).bind zbw:=fun ρ=>by rw[zm2,zcT,Option.bind_assoc]
theorem zeE(f:Nat)(cs:Es): ∀ρ,evT fn (.call f cs) ρ=(evE fn (.call f cs) ρ).bind zbw:=fun ρ=>by rw[zrD,zmZ,Option.bind_assoc]
end
end L2.LW
set_option maxHeartbeats 4000000
namespace L2.LW
open PySem PySem.Spec PyProof.Rows
noncomputable def spI(K:PySem.W.Frag)(fn:Nat->List D->Option SV)(i:Nat):Sp:=fun vs H Q _=>∃W ds r,Wf W H/\Reps K W H ds vs/\fn i ds=some r/\∀v H',Same H H'->Res K W H H' r v->Q v H'
structure ARep (K:PySem.W.Frag)(W:Addr->Prop)(H:Hp)(io:List Nat)(ds:List D)(vs:List V):Prop where
 len:ds.length=vs.length
 val: ∀(k:Nat) (d:D),ds[k]? =some d->k∉io->∃v,vs[k]? =some v/\Rep K W H d v
 obj: ∀(k:Nat) (d:D),ds[k]? =some d->k∈io->∃a o,vs[k]? =some (.ref a)/\W a/\H a=some o/\ORep K W H d o
 inj: ∀(j k:Nat) (a:Addr),j∈io->k∈io->vs[j]? =some (.ref a)->vs[k]? =some (.ref a)->j=k
noncomputable def ioV(io:List Nat)(vs:List V)(a:Addr):Prop:=∃k∈io,vs[k]? =some (.ref a)
noncomputable def zwq(K:PySem.W.Frag)(W:Addr->Prop)(H:Hp)(io:List Nat)(vs:List V)(outs:List D):Prop:=
 Paired (fun k d=>∃a o,vs[k]? =some (.ref a)/\H a=some o/\ORep K W H d o) io outs
noncomputable def spA(K:PySem.W.Frag)(fa:Nat->List D->Option Ans)(i:Nat)(io:List Nat):Sp:=fun vs H Q _=>∃W ds r outs,Wf W H/\ARep K W H io ds vs/\fa i ds=some (.ok r outs)/\
 ∀v H',(∀a o,H a=some o->¬ioV io vs a->H' a=some o)->zwq K W H' io vs outs->Res K W H H' r v->Q v H'
theorem Reps.get'{K:PySem.W.Frag}{W:Addr->Prop}{H:Hp}{ds:List D}{vs:List V}(r:Reps K W H ds vs):ARep K W H [] ds vs:=
 ⟨r.length,fun k d h _=>r.get h,fun k d _ h=>(by cases h),fun j k a h=>(by cases h)⟩
theorem zkU{fa:Nat->List D->Option Ans}{i:Nat}{ds:List D}{r:SV}(h:prj fa i ds=some r):fa i ds=some (.ok r []):=by
 unfold prj at h
 split at h
 ·rename_i r' e;cases h;exact e
 ·cases h
theorem zar{Pg:Program}{w:World}{K:PySem.W.Frag}{mg:Str->Option Value}{base:Heap}{k:Nat}{f:Addr}{fd:FuncData}{ps:List Str}{fa:Nat->List D->Option Ans}{i:Nat}{io:List Nat}
  (F:FnOk Pg w K mg base CX0 k f fd ps (spA K fa i io)) (h:io=[]):FnOk Pg w K mg base CX0 k f fd ps (spI K (prj fa) i):=by
 subst h
 exact F.imp fun vs H Q E ⟨W,ds,r,wf,rp,e,q⟩=>⟨W,ds,r,[],wf,rp.get',zkU e,fun v H' k _ res=>q v H' (fun a o h=>k a o h fun ⟨_,z,_⟩=>by cases z) res⟩
theorem zkV{K:PySem.W.Frag}{W:Addr->Prop}{H:Hp}: ∀{rs:List SV} {vs:List V},Paired (Frz K W H) rs vs->rs.any SV.lent=false->Reps K W H (rs.map zbH) vs
 |_,_,.nil,_=>.nil
 |_,_,.cons h t,e=>by
  simp only[List.any_cons,Bool.or_eq_false_iff] at e
  refine .cons ?_ (zkV t e.2)
  cases h with
  |val h=>exact h
  |lis h e' r=>exact r.rep h e'
  |see h e' r=>simp[SV.lent] at e
theorem zni{K:PySem.W.Frag}{W:Addr->Prop}{H:Hp}: ∀{rs:List SV} {vs:List V},Paired (Frz K W H) rs vs->Reps K (fun _=>False) H (rs.map zbH) vs
 |_,_,.nil=>.nil
 |_,_,.cons h t=>by
  refine .cons ?_ (zni t)
  cases h with
  |val h=>exact h.less fun _ z=>z.elim
  |lis h e' r=>exact (r.less fun _ z=>z.elim).rep (fun z=>z) e'
  |see h e' r=>exact (r.less fun _ z=>z.elim).rep (fun z=>z) e'
theorem Res.plain{K:PySem.W.Frag}{W W':Addr->Prop}{H H':Hp}{r:SV}{v:V}(h:Res K W' H H' r v)(wf: ∀a,W' a->W a)(p:r.plain=true):Res K W H H' r v:=by
 cases h with
 |val h=>exact .val (h.plain p)
 |new h e r=>exact .new h e (r.plain p)
 |see h e r=>exact .see (wf _ h) e (r.plain p)
section
variable {X:Cx} {fn:Nat->List D->Option SV} {fuel:Nat} {a b c e:Expr} {ca cb cc ce:E} {es:List Expr} {cs:Es} {pos p:Pos} {x:Str}
theorem zaE{k:Nat}{f:Addr}{fd:FuncData}{ps:List Str}{i:Nat}(F:FnOk X.prog X.w X.K X.mg X.base CX0 k f fd ps (spI X.K fn i))(hr:Room k X.A)(hg:Gl X x)(hm:X.mg x=some (.ref f))(hk:PySem.W.keepIn X.K (.ref f)=true)
  (hb:Binds X.K fd ps []) (ha:IA X fn (e::es) cs) (hdb:(x==("__debug__":Str))=false:=by decide) (he:starEach (e::es) X.env=(false,eval e X.env)::starEach es X.env:=by rfl)
  (hpl:(backTo pos (starEach es X.env)).any (·.1)=false:=by rfl):IE X fn (.Call (.Name x p) (e::es) [] pos) (.call i cs):=
 .mk <| (zmL F hr hg hm hk hb .nil ztB ha.h hdb he hpl).imp fun σ H Q zz3=>by
  obtain⟨W,ρ,r,hR,h,q⟩:=zz3
  simp only[zmZ,jo1,zez] at h
  obtain⟨rs,e1,r',e2,e3⟩:=h
  split at e3
  ·cases e3
  ·rename_i hc
   cases e3
   refine⟨W,ρ,rs,hR,e1,fun vs H1 s1 f=>?_⟩
   show spI X.K fn i (vs++[]) H1 Q E0
   rw[List.append_nil]
   cases hl:rs.any SV.lent with
   |false=>exact⟨W,_,r,hR.wf' s1,zkV f hl,e2,fun v H' s2 h=>q v H' (s1.trans s2) (h.back s1)⟩
   |true=>
    have hp:r.plain=true:=by
     cases hp:r.plain with
     |true=>rfl
     |false=>exact absurd (by rw[hl,hp];rfl) hc
    exact⟨fun _=>False,_,r,fun _ z=>z.elim,zni f,e2,fun v H' s2 h=>q v H' (s1.trans s2) ((h.plain (fun _ z=>z.elim) hp).back s1)⟩
section
variable {K:PySem.W.Frag} {W:Addr->Prop} {ρ:LW.Env} {σ:St} {H H':Hp} {i j:Nat} {d:D} {v:V}
theorem zaS{α:Type}{l:List α}{i j:Nat}{x y:α}(h:(l.set i x)[j]? =some y):(i=j/\y=x/\j<l.length)\/(i≠j/\l[j]? =some y):=by
 rw[List.getElem?_set] at h
 split at h
 ·rename_i e
  subst e
  split at h
  ·cases h;exact .inl ⟨rfl,rfl,by assumption⟩
  ·cases h
 ·exact .inr ⟨by assumption,h⟩
theorem zcX{α:Type}{l:List α}{i:Nat}{x:α}(h:i<l.length):(l.set i x)[i]? =some x:=by simp[h]
theorem zaF{α:Type}{l:List α}{i j:Nat}{x:α}(h:i≠j):(l.set i x)[j]? =l[j]? :=List.getElem?_set_ne h
theorem R.set_val(r:R K W ρ σ H)(h:Rep K W H d v):R K W (ρ.set i (some (.val d))) (σ.set i (some v)) H:=by
 refine⟨fun j e hj=>?_,fun j e hj=>?_,fun j x e hj hc=>?_,fun j k x y e1 e2 a h1 h2 c1 c2 h3 h4=>?_,r.wf,by simpa using r.len⟩
 ·rcases zaS hj with ⟨rfl,z,hl⟩|⟨n,z⟩
  ·cases z
   exact⟨v,zcX (by rw[<-r.len];exact hl),h⟩
  ·obtain⟨u,h1,h2⟩:=r.val j e z
   exact⟨u,by rw[zaF n];exact h1,h2⟩
 ·rcases zaS hj with ⟨rfl,z,hl⟩|⟨n,z⟩
  ·cases z
  ·exact r.nol j e z
 ·rcases zaS hj with ⟨rfl,z,hl⟩|⟨n,z⟩
  ·cases z;cases hc
  ·obtain⟨a,o,h1,h2⟩:=r.own j x e z hc
   exact⟨a,o,by rw[zaF n];exact h1,h2⟩
 ·rcases zaS h1 with ⟨rfl,z,hl⟩|⟨n,z⟩
  ·cases z;cases c1
  ·rcases zaS h2 with ⟨rfl,z',hl⟩|⟨n',z'⟩
   ·cases z';cases c2
   ·rw[zaF n] at h3
    rw[zaF n'] at h4
    exact r.inj j k x y e1 e2 a z z' c1 c2 h3 h4
theorem zkb{a:Addr}(h:Own (ρ.set i (some (.val d))) (σ.set i (some v)) a):Own ρ σ a:=by
 obtain⟨j,x,e,h1,hc,h2⟩:=h
 rcases zaS h1 with ⟨rfl,z,hl⟩|⟨n,z⟩
 ·cases z;cases hc
 ·rw[zaF n] at h2
  exact⟨j,x,e,z,hc,h2⟩
theorem ziM{x:SV}(hx: ∀d,x≠ .io d)(hf: ¬ziq ρ i)(j:Nat):(ziq (ρ.set i (some x)) j↔ziq ρ j)/\(ziq ρ j->i≠j):=by
 refine⟨⟨fun ⟨d,h⟩=>?_,fun ⟨d,h⟩=>?_⟩,fun h e=>hf (by rw[e];exact h)⟩
 ·rcases zaS h with ⟨rfl,z,hl⟩|⟨n,z⟩
  ·cases z;exact absurd rfl (hx d)
  ·exact⟨d,z⟩
 ·exact⟨d,by rw[zaF (fun e=>hf (by rw[e];exact⟨d,h⟩))];exact h⟩
theorem zcj(r:R K W ρ σ H)(s:Same H H')(h:Rep K W H' d v)(hf: ¬ziq ρ i):SPost K W ρ σ H W (ρ.set i (some (.val d))) (σ.set i (some v)) H':=
 ⟨(r.same s).set_val h,fun a o q _=>s a o q,fun a w=>.inl w,fun a w n=>⟨w,fun z=>n (zkb z)⟩,fun j=>⟨(ziM (x:=.val d) (fun _ z=>(nomatch z)) hf j).1,fun z=>zaF ((ziM (x:=.val d) (fun _ z=>(nomatch z)) hf j).2 z)⟩⟩
theorem zt5{a:Addr}(wf:Wf W H)(s:Same H H'){o:HO}(e:H' a=some o):Wf (add W a) H':=fun b w=>by
 rcases w with w|rfl
 ·cases q:H b with
  |none=>exact absurd q (wf b w)
  |some u=>rw[s b u q];exact fun z=>nomatch z
 ·rw[e];exact fun z=>nomatch z
theorem zhw{a:Addr}(s:Same H H')(h:H a=Option.none):Ext W H (add W a) H':=
 ⟨fun b o q _=>s b o q,fun b xs q=>s b _ q,fun b o u q=>s b _ q,fun b w=>by
  rcases w with w|rfl
  ·exact .inl w
  ·exact .inr h⟩
theorem R.add{a:Addr}{o:HO}(r:R K W ρ σ H)(s:Same H H')(h:H a=Option.none)(e:H' a=some o):R K (LW.add W a) ρ σ H':=by
 refine⟨fun j d hj=>?_,r.nol,fun j x d hj hc=>?_,r.inj,zt5 r.wf s e,r.len⟩
 ·obtain⟨u,h1,h2⟩:=r.val j d hj
  exact⟨u,h1,h2.ext (zhw s h)⟩
 ·obtain⟨b,o,h1,h2,h3,h4⟩:=r.own j x d hj hc
  exact⟨b,o,h1,.inl h2,s _ _ h3,h4.ext (zhw s h)⟩
theorem R.noOwn{a:Addr}(r:R K W ρ σ H)(h:H a=Option.none): ¬Own ρ σ a:=fun z=>by
 obtain⟨_,o,d,e,_⟩:=r.ownW z
 rw[h] at e;cases e
theorem zeU{a:Addr}{o:HO}(r:R K W ρ σ H)(s:Same H H')(h:H a=Option.none)(e:H' a=some o)(rp:ORep K (LW.add W a) H' d o)(hf: ¬ziq ρ i):
  SPost K W ρ σ H (LW.add W a) (ρ.set i (some (.obj true d))) (σ.set i (some (.ref a))) H':=by
 have ra:=r.add s h e
 refine⟨⟨fun j d hj=>?_,fun j d hj=>?_,fun j x es hj hc=>?_,fun j k x y e1 e2 b h1 h2 c1 c2 h3 h4=>?_,ra.wf,by simpa using r.len⟩,fun b o q _=>s b o q,(zhw (W:=W) s h).win,fun b w n=>⟨.inl w,fun z=>?_⟩,
  fun j=>⟨(ziM (x:=.obj true d) (fun _ z=>(nomatch z)) hf j).1,fun z=>zaF ((ziM (x:=.obj true d) (fun _ z=>(nomatch z)) hf j).2 z)⟩⟩
 ·rcases zaS hj with ⟨rfl,z,hl⟩|⟨n,z⟩
  ·cases z
  ·obtain⟨u,h1,h2⟩:=ra.val j d z
   exact⟨u,by rw[zaF n];exact h1,h2⟩
 ·rcases zaS hj with ⟨rfl,z,hl⟩|⟨n,z⟩
  ·cases z
  ·exact r.nol j d z
 ·rcases zaS hj with ⟨rfl,z,hl⟩|⟨n,z⟩
  ·cases z;cases hc
   exact⟨a,o,zcX (by rw[<-r.len];exact hl),.inr rfl,e,rp⟩
  ·obtain⟨b,ys,h1,h2⟩:=ra.own j x es z hc
   exact⟨b,ys,by rw[zaF n];exact h1,h2⟩
 ·have other: ∀{k:Nat} {x:SV} {e:D},ρ[k]? =some (some x)->x.cell=some e->σ[k]? =some (some (.ref a))->False:=fun {k x e} q1 q3 q2=>r.noOwn h ⟨k,x,e,q1,q3,q2⟩
  rcases zaS h1 with ⟨rfl,z,hl⟩|⟨n,z⟩
  ·rcases zaS h2 with ⟨rfl,_,_⟩|⟨n',z'⟩
   ·rfl
   ·rw[zcX (by rw[<-r.len];exact hl)] at h3
    cases h3
    rw[zaF n'] at h4
    exact (other z' c2 h4).elim
  ·rcases zaS h2 with ⟨rfl,z',hl⟩|⟨n',z'⟩
   ·rw[zcX (by rw[<-r.len];exact hl)] at h4
    cases h4
    rw[zaF n] at h3
    exact (other z c1 h3).elim
   ·rw[zaF n] at h3
    rw[zaF n'] at h4
    exact r.inj j k x y e1 e2 b z z' c1 c2 h3 h4
 ·obtain⟨j,x,es,h1,hc,h2⟩:=z
  rcases zaS h1 with ⟨rfl,_,hl⟩|⟨n',z'⟩
  ·rw[zcX (by rw[<-r.len];exact hl)] at h2
   cases h2
   exact r.wf _ w h
  ·rw[zaF n'] at h2
   exact n ⟨j,x,es,z',hc,h2⟩
noncomputable def del(W:Addr->Prop)(a:Addr):Addr->Prop:=fun b=>W b/\b≠a
theorem zhx{a:Addr}: ∀b,del W a b->W b:=fun _ h=>h.1
theorem zdM{a:Addr}{o:Bool}(r:R K W ρ σ H)(h:ρ[j]? =some (some (.obj o d)))(h':σ[j]? =some (some (.ref a))):
  SPost K W ρ σ H (del W a) (ρ.set j (some (.val d))) σ H/\Rep K (del W a) H d (.ref a):=by
 cases o with
 |false=>exact absurd h (r.nol j d)
 |true=>
 obtain⟨a',o,e1,e2,e3,e4⟩:=r.own j _ d h rfl
 rw[h'] at e1;cases e1
 have rp:Rep K (del W a) H d (.ref a):=(e4.less zhx).rep (fun z=>z.2 rfl) e3
 have nio: ¬ziq ρ j:=fun ⟨d',z⟩=>by rw[h] at z;cases z
 refine⟨⟨⟨fun k d' hk=>?_,fun k d' hk=>?_,fun k x es hk hc=>?_,fun k l x y e1 e2 b h1 h2 c1 c2 h3 h4=>?_,fun b w=>r.wf b w.1,by simpa using r.len⟩,fun b o q _=>q,fun b w=>.inl w.1,fun b w n=>⟨⟨w,fun z=>?_⟩,fun z=>?_⟩,
  fun k=>⟨(ziM (x:=.val d) (fun _ z=>(nomatch z)) nio k).1,fun _=>rfl⟩⟩,rp⟩
 ·rcases zaS hk with ⟨rfl,z,hl⟩|⟨n,z⟩
  ·cases z;exact⟨_,h',rp⟩
  ·obtain⟨u,h1,h2⟩:=r.val k d' z
   exact⟨u,h1,h2.less zhx⟩
 ·rcases zaS hk with ⟨rfl,z,hl⟩|⟨n,z⟩
  ·cases z
  ·exact r.nol k d' z
 ·rcases zaS hk with ⟨rfl,z,hl⟩|⟨n,z⟩
  ·cases z;cases hc
  ·obtain⟨b,ys,h1,h2,h3,h4⟩:=r.own k x es z hc
   refine⟨b,ys,h1,⟨h2,fun z'=>?_⟩,h3,h4.less zhx⟩
   subst z'
   exact n (r.inj j k _ x d es b h z rfl hc h' h1)
 ·rcases zaS h1 with ⟨rfl,z,hl⟩|⟨n,z⟩
  ·cases z;cases c1
  ·rcases zaS h2 with ⟨rfl,z',hl⟩|⟨n',z'⟩
   ·cases z';cases c2
   ·exact r.inj k l x y e1 e2 b z z' c1 c2 h3 h4
 ·subst z
  exact n ⟨j,_,d,h,rfl,h'⟩
 ·obtain⟨k,x,es,h1,hc,h2⟩:=z
  rcases zaS h1 with ⟨rfl,z,hl⟩|⟨n',z⟩
  ·cases z;cases hc
  ·exact n ⟨k,x,es,z,hc,h2⟩
theorem zkW(x:SV)(d:D):(x.put d).cell=some d:=by cases x<;>rfl
theorem znj(x:SV)(d d':D):x.put d≠ .val d':=by cases x<;>exact fun z=>nomatch z
theorem znk(x:SV)(d d':D):x.put d≠ .obj false d':=by
 cases x<;>intro z<;>first|cases z|(simp[SV.put] at z)
theorem zkX{x:SV}{d:D}:(∃d',x.put d= .io d')↔∃d',x= .io d':=by
 cases x with
 |io y=>exact⟨fun _=>⟨_,rfl⟩,fun _=>⟨_,rfl⟩⟩
 |_=>exact⟨fun ⟨_,z⟩=>(nomatch z),fun ⟨_,z⟩=>(nomatch z)⟩
theorem zhy{a:Addr}{x:SV}{d0 d':D}{o o':HO}(r:R K W ρ σ H)(h:ρ[i]? =some (some x))(hc:x.cell=some d0)(h':σ[i]? =some (some (.ref a)))(s:Same H H')(e:H' a=some o)(hk:(∀xs,o≠ .tup xs)/\(∀b u,o≠ .frz b u))
  (rp:ORep K W H' d' o'):SPost K W ρ σ H W (ρ.set i (some (x.put d'))) σ (upd H' a o'):=by
 have r':=r.same s
 have hO:Own ρ σ a:=⟨i,x,d0,h,hc,h'⟩
 have hW:W a:=(r.ownW hO).1
 have ext:Ext W H' W (upd H' a o'):=by
  refine⟨fun b o q n=>?_,fun b ys q=>?_,fun b o u q=>?_,fun b w=>.inl w⟩
  ·rw[za9 (fun z=>n (by rw[z];exact hW))];exact q
  ·rw[za9 (fun z=>by rw[z,e] at q;cases q;exact hk.1 _ rfl)];exact q
  ·rw[za9 (fun z=>by rw[z,e] at q;cases q;exact hk.2 _ _ rfl)];exact q
 have old: ∀{k:Nat} {y:SV} {es:D},(ρ.set i (some (x.put d')))[k]? =some (some y)->y.cell=some es->∃y' es',ρ[k]? =some (some y')/\y'.cell=some es':=fun {k y es} q c=>by
  rcases zaS q with ⟨rfl,_,_⟩|⟨_,z⟩
  ·exact⟨_,_,h,hc⟩
  ·exact⟨_,_,z,c⟩
 refine⟨⟨fun k d' hk=>?_,fun k d' hk=>?_,fun k y es hk hc'=>?_,fun k l x y e1 e2 b h1 h2 c1 c2 h3 h4=>?_,fun b w=>?_,by simpa using r.len⟩,fun b o q n=>?_,fun b w=>.inl w,fun b w n=>⟨w,fun z=>?_⟩,fun j=>⟨?_,fun _=>rfl⟩⟩
 ·rcases zaS hk with ⟨rfl,z,hl⟩|⟨n,z⟩
  ·exact absurd (Option.some.inj z).symm (znj _ _ _)
  ·obtain⟨u,h1,h2⟩:=r'.val k d' z
   exact⟨u,h1,h2.ext ext⟩
 ·rcases zaS hk with ⟨rfl,z,hl⟩|⟨n,z⟩
  ·exact absurd (Option.some.inj z).symm (znk _ _ _)
  ·exact r.nol k d' z
 ·rcases zaS hk with ⟨rfl,z,hl⟩|⟨n,z⟩
  ·cases z
   rw[zkW] at hc'
   cases hc'
   exact⟨a,_,h',hW,zbe,rp.ext ext⟩
  ·obtain⟨b,ys,h1,h2,h3,h4⟩:=r'.own k y es z hc'
   refine⟨b,ys,h1,h2,?_,h4.ext ext⟩
   rw[za9 (fun z'=>by subst z';exact n (r.inj i k x y d0 es b h z hc hc' h' h1))]
   exact h3
 ·obtain⟨_,_,z1,w1⟩:=old h1 c1
  obtain⟨_,_,z2,w2⟩:=old h2 c2
  exact r.inj k l _ _ _ _ b z1 z2 w1 w2 h3 h4
 ·by_cases z:b=a
  ·subst z;rw[zbe];exact fun z=>nomatch z
  ·rw[za9 z];exact r'.wf b w
 ·rw[za9 (fun z=>n (by rw[z];exact hO))]
  exact s b o q
 ·obtain⟨k,y,es,h1,hc',h2⟩:=z
  obtain⟨_,_,z,w⟩:=old h1 hc'
  exact n ⟨k,_,_,z,w,h2⟩
 ·by_cases e:i=j
  ·subst e
   have hl:i<ρ.length:=by
    obtain⟨z,_⟩:=List.getElem?_eq_some_iff.mp h;exact z
   constructor
   ·rintro⟨d',z⟩
    rw[zcX hl] at z
    have z:=Option.some.inj (Option.some.inj z)
    obtain⟨d2,w⟩:=zkX.mp ⟨d',z⟩
    exact⟨d2,by rw[h,w]⟩
   ·rintro⟨d2,z⟩
    rw[h] at z
    obtain⟨d3,w⟩:=zkX (d:=d').mpr ⟨d2,Option.some.inj (Option.some.inj z)⟩
    exact⟨d3,by rw[zcX hl,w]⟩
  ·unfold ziq;rw[zaF e]
end
theorem Ret.back{K:PySem.W.Frag}{W W1 W2:Addr->Prop}{ρ ρ1:LW.Env}{σ σ1:St}{H H1 H2:Hp}{r:SV}{v:V}(p:SPost K W ρ σ H W1 ρ1 σ1 H1)(h:Ret K W1 ρ1 σ1 W2 H2 r v):Ret K W ρ σ W2 H2 r v:=by
 cases h with
 |val h=>exact .val h
 |new h n n' e r=>exact .new h (fun ⟨w,z⟩=>n (p.wout _ w z)) (fun ⟨i,z1,z2⟩=>n' ⟨i,(p.io i).1.mpr z1,by rw[(p.io i).2 z1];exact z2⟩) e r
theorem FlOk.back{K:PySem.W.Frag}{W W1 W2:Addr->Prop}{ρ ρ1 ρ2:LW.Env}{σ σ1 σ2:St}{H H1 H2:Hp}{D:Ends}{fl:Fl}(p:SPost K W ρ σ H W1 ρ1 σ1 H1)(h:FlOk K W ρ σ W2 ρ2 σ2 H2 D fl):FlOk K W1 ρ1 σ1 W2 ρ2 σ2 H2 D fl:=by
 cases fl with
 |rt r=>exact fun v q=>h v (q.back p)
 |_=>exact h
structure IS (X:Cx)(ex:LW.Env->Option (Fl×LW.Env))(st:Stmt):Prop where
 h:PS X st (tSs X.K ex)
structure ISs (X:Cx)(ex:LW.Env->Option (Fl×LW.Env))(st:List Stmt):Prop where
 h:PSs X st (tSs X.K ex)
variable {fa:Nat->List D->Option Ans} {st:Stmt} {sts:List Stmt} {s:S} {ss s1 s2:Ss}
theorem zap:ISs X (zaR fa fuel .nil) []:=.mk <| zrg.imp fun D σ H zz3=>by
 obtain⟨W,ρ,x,hR,hx,q⟩:=zz3
 simp only[zrJ] at hx;cases hx;exact q W σ H (.same hR (.refl H))
theorem zaf(h1:IS X (exS fa fuel s) st)(h2:ISs X (zaR fa fuel ss) sts):ISs X (zaR fa fuel (.cons s ss)) (st::sts):=
 .mk <| (zo2 h1.h h2.h).imp fun D σ H zz3=>by
  obtain⟨W,ρ,x,hR,hx,q⟩:=zz3
  simp only[zpk,jo1] at hx
  obtain⟨⟨fl,ρ1⟩,e1,e2⟩:=hx
  refine⟨W,ρ,(fl,ρ1),hR,e1,fun W1 σ1 H1 p1=>?_⟩
  cases fl with
  |nx=>exact⟨W1,ρ1,x,p1.r,e2,fun W2 σ2 H2 p2=>FlOk.back p1 (q W2 σ2 H2 (p1.trans p2 hR))⟩
  |br=>cases e2;exact q W1 σ1 H1 p1
  |ct=>cases e2;exact q W1 σ1 H1 p1
  |rt r=>cases e2;exact q W1 σ1 H1 p1
theorem zkY(he:IE X (prj fa) e ce)(hs:swapsWith e Option.none pos.line X.env=pure false:=by rfl):IS X (exS fa fuel (.expr ce)) (.Expr e pos):=
 .mk <| (zj0 he.h hs).imp fun D σ H zz3=>by
  obtain⟨W,ρ,x,hR,hx,q⟩:=zz3
  simp only[zrF,jo2] at hx
  obtain⟨r,e1,rfl⟩:=hx
  exact⟨W,ρ,r,hR,e1,fun v H1 s1 _=>q W σ H1 (.same hR s1)⟩
theorem zbu(i:Nat){pos':Pos}(hN:X.N.Nodup)(hi:X.N[i]? =some x)(hx:Loc X.env.scope x)(he:IE X (prj fa) e ce)(hs:swapsWith e (some (.Name x pos')) pos.line X.env=pure false:=by rfl)
  (hf:X.fn x=true\/X.env.scope.names.lookup x=some .local:=by first|exact .inl rfl|exact .inr rfl|assumption):IS X (exS fa fuel (.asg i ce)) (.Assign [.Name x pos'] e pos):=
 .mk <| (zqp hN hi hx he.h hs hf).imp fun D σ H zz3=>by
  obtain⟨W,ρ,y,hR,hy,q⟩:=zz3
  simp only[zqx,jo1] at hy
  obtain⟨r,e1,e2⟩:=hy
  split at e2
  ·cases e2
  ·rename_i hl
   cases e2
   simp only[Bool.not_eq_true,Bool.or_eq_false_iff,Bool.not_eq_false'] at hl
   refine⟨W,ρ,r,hR,e1,fun v H1 s1 h=>?_⟩
   cases h with
   |val h=>exact q W _ H1 (zcj hR s1 h (zdJ hl.2))
   |new h e r=>exact q _ _ H1 (zeU hR s1 h e r (zdJ hl.2))
   |see h e r=>simp[SV.lent] at hl
theorem zt6(i j:Nat){y:Str}{pos':Pos}(hN:X.N.Nodup)(hi:X.N[i]? =some x)(hx:Loc X.env.scope x)(hj:X.N[j]? =some y)(hv:Vis X.env.scope y)(hs:swapsWith (.Name y p) (some (.Name x pos')) pos.line X.env=pure false:=by rfl)
  (hf:X.fn x=true\/X.env.scope.names.lookup x=some .local:=by first|exact .inl rfl|exact .inr rfl|assumption) (hd:(y==("__debug__":Str))=false:=by decide) (hcd:(y==("__classdict__":Str))=false:=by decide):
  IS X (exS fa fuel (.mov i j)) (.Assign [.Name x pos'] (.Name y p) pos):=
 .mk <| (zqp hN hi hx (zfz hj hv hd hcd) hs hf).imp fun D σ H zz3=>by
  obtain⟨W,ρ,z,hR,hz,q⟩:=zz3
  simp only[zqy] at hz
  split at hz
  ·rename_i hfr
   split at hz
   ·rename_i d h
    cases hz
    obtain⟨v,h1,h2⟩:=hR.val j d h
    exact⟨v,h1,q W _ H (zcj hR (.refl H) h2 (zdJ hfr))⟩
   ·rename_i o ds h
    cases hz
    cases o with
    |false=>exact absurd h (hR.nol j ds)
    |true=>
    obtain⟨a,xs,h1,_⟩:=hR.own j _ ds h rfl
    obtain⟨p1,rp⟩:=zdM hR h h1
    exact⟨_,h1,q _ _ H (p1.trans (zcj p1.r (.refl H) rp fun z=>zdJ hfr ((p1.io _).1.mp z)) hR)⟩
   ·cases hz
  ·cases hz
theorem zbf(he:IE X (prj fa) e ce):IS X (exS fa fuel (.ret ce)) (.Return (some e) pos):=
 .mk <| (zqo he.h).imp fun D σ H zz3=>by
  obtain⟨W,ρ,y,hR,hy,q⟩:=zz3
  simp only[ztV,jo1] at hy
  obtain⟨r,e1,e2⟩:=hy
  split at e2
  ·cases e2
  ·rename_i hl
   cases e2
   refine⟨W,ρ,r,hR,e1,fun v H1 s1 h=>?_⟩
   cases h with
   |val h=>exact q W σ H1 (.same hR s1) v (.val h)
   |new h e r=>
    refine q _ σ H1 ⟨hR.add s1 h e,fun b o q _=>s1 b o q,(zhw (W:=W) s1 h).win,fun b w n=>⟨.inl w,n⟩,fun _=>⟨.rfl,fun _=>rfl⟩⟩ _ (.new (.inr rfl) (fun z=>hR.wf _ z.1 h) (fun ⟨i,⟨d,z1⟩,z2⟩=>hR.noOwn h ⟨i,_,d,z1,rfl,z2⟩) e r)
   |see h e r=>simp[SV.lent] at hl
theorem znl(i:Nat)(hN:X.N[i]? =some x)(hv:Vis X.env.scope x)(hd:(x==("__debug__":Str))=false:=by decide)(hcd:(x==("__classdict__":Str))=false:=by decide):IS X (exS fa fuel (.retV i)) (.Return (some (.Name x p)) pos):=
 .mk <| (zqo (zfz hN hv hd hcd)).imp fun D σ H zz3=>by
  obtain⟨W,ρ,y,hR,hy,q⟩:=zz3
  simp only[zm4] at hy
  split at hy
  ·rename_i d h
   cases hy
   obtain⟨v,h1,h2⟩:=hR.val i d h
   exact⟨v,h1,q W σ H (.same hR (.refl H)) v (.val h2)⟩
  ·rename_i o ds h
   cases hy
   cases o with
   |false=>exact absurd h (hR.nol i ds)
   |true=>
   obtain⟨a,xs,h1,h2,h3,h4⟩:=hR.own i _ ds h rfl
   refine⟨_,h1,q W σ H ?_ _ (.new h2 (fun z=>z.2 ⟨i,_,ds,h,rfl,h1⟩) (fun zz0=>by
    obtain⟨j,⟨d',z1⟩,z2⟩:=zz0
    have:=hR.inj i j _ _ ds d' a h z1 rfl rfl h1 z2
    subst this
    rw[h] at z1;cases z1) h3 h4)⟩
   have old: ∀{k:Nat} {z:SV},(ρ.set i Option.none)[k]? =some (some z)->ρ[k]? =some (some z):=fun {k z} q=>by
    rcases zaS q with ⟨_,w,_⟩|⟨_,w⟩
    ·cases w
    ·exact w
   exact⟨⟨fun k d hk=>hR.val k d (old hk),fun k d hk=>hR.nol k d (old hk),fun k o es hk=>hR.own k o es (old hk),fun k l x y e1 e2 b z1 z2=>hR.inj k l x y e1 e2 b (old z1) (old z2),hR.wf,by simpa using hR.len⟩,fun b o q _=>q,fun b w=>.inl w,fun b w n=>⟨w,fun ⟨k,x,es,z1,c,z2⟩=>n ⟨k,x,es,old z1,c,z2⟩⟩,
    fun k=>⟨⟨fun ⟨d',z⟩=>⟨d',old z⟩,fun ⟨d',z⟩=>⟨d',by rw[zaF (fun e=>by subst e;rw[h] at z;cases z)];exact z⟩⟩,fun _=>rfl⟩⟩
  ·cases hy
theorem zqC:IS X (exS fa fuel .stop) st:=.mk <| zo3.imp fun D σ H zz3=>by
 obtain⟨W,ρ,y,hR,hy,q⟩:=zz3
 simp only[zrI] at hy;cases hy
theorem zir(hc:IT X (prj fa) c cc)(h1:ISs X (zaR fa fuel s1) sts)(h2:ISs X (zaR fa fuel s2) sts'):IS X (exS fa fuel (.ifs cc s1 s2)) (.If c sts sts' pos):=
 .mk <| (ztg hc.h h1.h h2.h).imp fun D σ H zz3=>by
  obtain⟨W,ρ,y,hR,hy,q⟩:=zz3
  simp only[ztW,jo1] at hy
  obtain⟨k,e1,e2⟩:=hy
  refine⟨W,ρ,k,hR,e1,fun H1 w1=>?_⟩
  have p1:=SPost.same hR w1
  show if k=true then tSs X.K (zaR fa fuel s1) D σ H1 else tSs X.K (zaR fa fuel s2) D σ H1
  cases k with
  |true=>rw[if_pos rfl] at e2⊢;exact⟨W,ρ,y,p1.r,e2,fun W2 σ2 H2 p2=>FlOk.back p1 (q W2 σ2 H2 (p1.trans p2 hR))⟩
  |false=>rw[if_neg Bool.false_ne_true] at e2⊢;exact⟨W,ρ,y,p1.r,e2,fun W2 σ2 H2 p2=>FlOk.back p1 (q W2 σ2 H2 (p1.trans p2 hR))⟩
theorem zrS(i:Nat){apos cpos:Pos}(hN:X.N[i]? =some x)(hv:Vis X.env.scope x)(he:IE X (prj fa) e ce)(hst:starEach [e] X.env=(false,eval e X.env)::starEach [] X.env)(hd:(x==("__debug__":Str))=false)(hcd:(x==("__classdict__":Str))=false)
  (hs:swapsWith (.Call (.Attribute (.Name x p) "append" apos) [e] [] cpos) Option.none pos.line X.env=pure false:=by rfl)
  (hbase:attributeBase (.Name x p) "append" X.env (eval (.Name x p) X.env)=eval (.Name x p) X.env:=by rfl)
  (hline:(apos.endLine==cpos.line)=true:=by rfl):
  IS X (exS fa fuel (.app i ce)) (.Expr (.Call (.Attribute (.Name x p) "append" apos) [e] [] cpos) pos):=
 .mk <| (zj0 (zx7 PySem.F.plainAttrs_list PySem.F.slot_list_append PySem.F.type_list_append ziB (zfz hN hv hd hcd) (zct he.v zgM hst) hbase (by rw[hst];rfl) hline hst zam) hs).imp fun D σ H zz3=>by
  obtain⟨W,ρ,y,hR,hy,q⟩:=zz3
  simp only[zqz] at hy
  split at hy
  ·rename_i x h
   split at hy
   ·rename_i ds hc
    simp only[jo1] at hy
    obtain⟨r,e1,d,e2,e3⟩:=hy
    split at e3
    ·rename_i hl
     cases e3
     obtain⟨a,o,h1,h2,h3,h4⟩:=hR.own i _ _ h hc
     cases h4 with
     |lst h4=>
     rename_i xs
     refine⟨_,h1,.inl ⟨rfl,xs,.of h3⟩,?_⟩
     refine⟨W,ρ,r,hR,e1,fun v H1 w1 f=>?_⟩
     refine⟨a,xs,v,rfl,rfl,w1 _ _ h3,?_,?_⟩
     ·rw[<-h4.length,<-zhm];exact hl
     ·exact q W σ _ (zhy hR h hc h1 w1 (w1 _ _ h3) ⟨fun _ z=>(nomatch z),fun _ _ z=>(nomatch z)⟩ (.lst ((h4.ext (.same w1)).append (.cons (f.toD e2) .nil))))
    ·cases e3
   ·cases hy
  ·cases hy
end
end L2.LW
set_option maxHeartbeats 4000000
namespace L2.LW
open PySem PySem.Spec PyProof.Rows
noncomputable def Yl(K:PySem.W.Frag)(J:It)(W:Addr->Prop)(H:Hp)(ds:List D):Prop:=
 ∀W' H',Ext W H W' H'->∀k:Nat,(k=ds.length->J.stop k H')/\∀d,ds[k]? =some d->J.go k H'/\∀x H'',J.yld k H' x H''->H''=H'/\Rep K W' H' d x
noncomputable def Ys(K:PySem.W.Frag)(J:It)(W:Addr->Prop)(H:Hp)(ds:List D):Prop:=
 ∀W' H',Same H H'->(∀a,W' a->W a\/H a=Option.none)->∀k:Nat,(k=ds.length->J.stop k H')/\∀d,ds[k]? =some d->J.go k H'/\∀x H'',J.yld k H' x H''->H''=H'/\Rep K W' H' d x
theorem Ext.sameW{W W':Addr->Prop}{H H':Hp}(s:Same H H')(w: ∀a,W' a->W a\/H a=Option.none):Ext W H W' H':=⟨fun a o h _=>s a o h,fun a xs h=>s a _ h,fun a o u h=>s a _ h,w⟩
section
variable {K:PySem.W.Frag} {W:Addr->Prop} {H:Hp} {a:Addr} {xs:List V} {ds:List D}
theorem ziN{H':Hp}{W':Addr->Prop}(hq:SqL K H' a xs)(rp:Reps K W' H' ds xs)(k:Nat):
  (k=ds.length->(Itl K a).stop k H')/\∀d,ds[k]? =some d->(Itl K a).go k H'/\∀x H'',(Itl K a).yld k H' x H''->H''=H'/\Rep K W' H' d x:=by
 refine⟨fun e=>⟨xs,hq,by rw[<-rp.length,e];exact Nat.le_refl _⟩,fun d e=>?_⟩
 obtain⟨v,e1,e2⟩:=rp.get e
 refine⟨⟨xs,v,hq,e1⟩,fun x H'' ⟨z,y⟩=>⟨z,?_⟩⟩
 have:=y xs hq
 rw[e1] at this
 cases this
 exact e2
theorem znm{H':Hp}{W':Addr->Prop}(hq:SqT K H' a xs)(rp:Reps K W' H' ds xs)(k:Nat):
  (k=ds.length->(Itt K a).stop k H')/\∀d,ds[k]? =some d->(Itt K a).go k H'/\∀x H'',(Itt K a).yld k H' x H''->H''=H'/\Rep K W' H' d x:=by
 refine⟨fun e=>⟨xs,hq,by rw[<-rp.length,e];exact Nat.le_refl _⟩,fun d e=>?_⟩
 obtain⟨v,e1,e2⟩:=rp.get e
 refine⟨⟨xs,v,hq,e1⟩,fun x H'' ⟨z,y⟩=>⟨z,?_⟩⟩
 have:=y xs hq
 rw[e1] at this
 cases this
 exact e2
theorem zkZ{H':Hp}{W':Addr->Prop}{lo:Int}{n:Nat}(k:Nat):
  (k=((List.range n).map fun (k:Nat)=>D.int (lo+(k:Int))).length->(Itr lo n).stop k H')/\
   ∀d,((List.range n).map fun (k:Nat)=>D.int (lo+(k:Int)))[k]? =some d->(Itr lo n).go k H'/\∀x H'',(Itr lo n).yld k H' x H''->H''=H'/\Rep K W' H' d x:=by
 refine⟨fun e=>?_,fun d e=>?_⟩
 ·rw[List.length_map,List.length_range] at e
  exact Nat.le_of_eq e.symm
 ·rw[List.getElem?_map,jo2] at e
  obtain⟨j,e1,rfl⟩:=e
  obtain⟨h1,h2⟩:=List.getElem?_eq_some_iff.mp e1
  rw[List.length_range] at h1
  rw[List.getElem_range] at h2
  subst h2
  exact⟨h1,fun x H'' ⟨z,y⟩=>⟨z,by rw[y];exact .int _⟩⟩
theorem zkc{W':Addr->Prop}{H':Hp}(h:(¬W a/\Rd H a (.lst xs))\/zyv K a xs)(x:Ext W H W' H'):SqL K H' a xs:=by
 rcases h with ⟨n,h|⟨o,h⟩⟩|h
 ·exact .inl (.inl (x.keep _ _ h n))
 ·exact .inl (.inr ⟨o,x.keep _ _ h n⟩)
 ·exact .inr h
end
noncomputable def zAP(K:PySem.W.Frag)(tl:TE):TI:=fun σ H R=>tl σ H fun x H1=>∃a,x= .ref a/\(((∃xs,SqL K H1 a xs)/\R (Itl K a) H1)\/((∃xs,SqT K H1 a xs)/\R (Itt K a) H1))
section
variable {X:Cx} {tg l:Expr}
theorem zqD{tl:TE}(hl:PE X l tl):PI X tg l (zAP X.K tl):=by
 intro pins s σ H R I h
 refine thn (hl pins s σ H _ I h) fun v s1 ⟨x,H1,I1,r1,q1⟩=>?_
 obtain⟨a,e,q⟩:=q1
 subst e
 cases r1
 rcases q with ⟨⟨xs,hq⟩,q⟩|⟨⟨xs,hq⟩,q⟩
 ·obtain⟨its,rv,p,hz⟩:=I1.list hq
  refine wpAny_pyIter_list p.isList ?_
  refine⟨s1.heap.objs.size,[s1.heap.objs.size],_,_,H1,rfl,I1.kept (t':=s1.toks) fun b o e=>Heap.get?_push_of_some _ e,zmA a _,⟨_,Heap.get?_push_size _ rfl,rfl,rfl⟩,fun b hb=>?_,q⟩
  have e:b=s1.heap.objs.size:=by simpa using hb
  subst e
  exact I1.fpOk (Nat.le_refl _) (I1.hok.fresh (Nat.le_refl _))
 ·obtain⟨its,rv,p,hz⟩:=I1.tuple hq
  refine wpAny_pyIter_tuple (show s1.heap.IsTuple a its.toArray from p) ?_
  refine⟨s1.heap.objs.size,[s1.heap.objs.size],_,_,H1,rfl,I1.kept (t':=s1.toks) fun b o e=>Heap.get?_push_of_some _ e,zlM a _,⟨_,Heap.get?_push_size _ rfl,rfl,rfl⟩,fun b hb=>?_,q⟩
  have e:b=s1.heap.objs.size:=by simpa using hb
  subst e
  exact I1.fpOk (Nat.le_refl _) (I1.hok.fresh (Nat.le_refl _))
end
noncomputable def tI(K:PySem.W.Frag)(fn:Nat->List D->Option SV)(rng:Bool)(src:Es):TI:=fun σ H R0=>∃W ρ rs ds,R K W ρ σ H/\zcx fn src ρ=some rs/\zaI rng rs=some ds/\
 ∀J H',Same H H'->Ys K J W H' ds->(rs.any SV.lent=false->Yl K J W H' ds)->R0 J H'
structure Src (X:Cx)(fn:Nat->List D->Option SV)(tg e:Expr)(rng:Bool)(src:Es):Prop where
 h:PI X tg e (tI X.K fn rng src)
theorem _root_.L2.PI.imp{X:Cx}{tg l:Expr}{t t':TI}(h:PI X tg l t)(i: ∀σ H Q,t' σ H Q->t σ H Q):PI X tg l t':=fun pins s σ H Q I q=>h pins s σ H Q I (i σ H Q q)
section
variable {X:Cx} {fn:Nat->List D->Option SV} {fuel:Nat} {a b c e tg:Expr} {ca cb cc ce:E} {es:List Expr} {cs:Es} {pos p:Pos} {x:Str}
theorem zbz(he:IE X fn e ce):Src X fn tg e false (.cons ce .nil):=
 .mk <| (zqD he.v).imp fun σ H R0 zz3=>by
  obtain⟨W,ρ,rs,ds,hR,h1,h2,q⟩:=zz3
  simp only[zcF,zbX,jo1,jo2] at h1
  obtain⟨r,e1,rs',e3,rfl⟩:=h1
  cases e3
  simp only[zaI] at h2
  refine⟨W,ρ,r,hR,e1,fun v H1 s1 f=>?_⟩
  unfold zgs at h2
  split at h2
  ·rename_i l hd
   cases h2
   have hs:=f.sees
   rw[hd] at hs
   obtain⟨a,xs,rfl,hq,rp⟩:=hs.tupH
   refine⟨a,rfl,.inr ⟨⟨xs,.of hq⟩,q _ H1 s1 (fun W' H' s w k=>znm (.of (s _ _ hq)) (rp.ext (.sameW s w)) k) fun _ W' H' x k=>znm (.of (x.tup _ _ hq)) (rp.ext x) k⟩⟩
  ·rename_i l hd
   cases h2
   have hs:=f.sees
   rw[hd] at hs
   obtain⟨a,xs,rfl,hq,rp⟩:=hs.lst
   refine⟨a,rfl,.inl ⟨⟨xs,hq⟩,q _ H1 s1 (fun W' H' s w k=>ziN (s.seq hq) (rp.ext (.sameW s w)) k) fun hl W' H' x k=>?_⟩⟩
   have hl':r.lent=false:=by simpa using hl
   cases f with
   |val h=>
    change _=D.lst _ at hd
    subst hd
    cases h with
    |lst h r'=>exact ziN (zkc h x) (r'.ext x) k
   |lis h e r'=>
    change _=D.lst _ at hd
    subst hd
    cases r' with
    |lst r'=>exact ziN (.of (x.keep _ _ e h)) (r'.ext x) k
   |see h e r'=>simp[SV.lent] at hl'
  ·cases h2
theorem zk0(hg:Gl X "range")(hm:X.mg "range"=Option.none)(ha:IA X fn [a] (.cons ca .nil))(hs:starEach [a] X.env=(false,eval a X.env)::starEach [] X.env):Src X fn tg (.Call (.Name "range" p) [a] [] pos) true (.cons ca .nil):=
 .mk <| (zmB hg hm ha.h hs).imp fun σ H R0 zz3=>by
  obtain⟨W,ρ,rs,ds,hR,h1,h2,q⟩:=zz3
  refine⟨W,ρ,rs,hR,h1,fun vs H1 s1 f=>?_⟩
  simp only[zcF,zbX,jo1,jo2] at h1
  obtain⟨r,e1,rs',e3,rfl⟩:=h1
  cases e3
  obtain⟨v,rfl,g⟩: ∃v,vs=[v]/\Frz X.K W H1 r v:=by
   cases f with
   |cons f t=>cases t;exact⟨_,rfl,f⟩
  clear f
  cases g with
  |val g=>
   cases g with
   |int n=>
    simp only[zaI] at h2
    split at h2
    ·rename_i hn
     cases h2
     exact⟨n,rfl,hn.1,hn.2,q _ H1 s1 (fun W' H' s w k=>zkZ k) fun _ W' H' x k=>zkZ k⟩
    ·cases h2
   |_=>simp[zaI] at h2
  |_=>simp[zaI] at h2
theorem zhz(hg:Gl X "range")(hm:X.mg "range"=Option.none)(ha:IA X fn [a,b] (.cons ca (.cons cb .nil)))(hs:starEach [a,b] X.env=(false,eval a X.env)::starEach [b] X.env)(hs2:starEach [b] X.env=(false,eval b X.env)::starEach [] X.env):
  Src X fn tg (.Call (.Name "range" p) [a,b] [] pos) true (.cons ca (.cons cb .nil)):=
 .mk <| (zmC hg hm ha.h (by rw[hs,hs2];rfl) hs2).imp fun σ H R0 zz3=>by
  obtain⟨W,ρ,rs,ds,hR,h1,h2,q⟩:=zz3
  refine⟨W,ρ,rs,hR,h1,fun vs H1 s1 f=>?_⟩
  simp only[zcF,zbX,jo1,jo2] at h1
  obtain⟨r,e1,rs',⟨r2,e2,rs'',e3,rfl⟩,rfl⟩:=h1
  cases e3
  obtain⟨v,v2,rfl,g,f2⟩: ∃v v2,vs=[v,v2]/\Frz X.K W H1 r v/\Frz X.K W H1 r2 v2:=by
   cases f with
   |cons f t=>cases t with
    |cons f' t=>cases t;exact⟨_,_,rfl,f,f'⟩
  clear f
  cases g with
  |val g=>
   cases f2 with
   |val f2=>
    cases g with
    |int n=>
     cases f2 with
     |int m=>
      simp only[zaI] at h2
      split at h2
      ·rename_i hn
       cases h2
       exact⟨n,m,rfl,⟨hn.1.1,hn.1.2,hn.2.1,hn.2.2⟩,q _ H1 s1 (fun W' H' s w k=>zkZ k) fun _ W' H' x k=>zkZ k⟩
      ·cases h2
     |_=>simp[zaI] at h2
    |_=>simp[zaI] at h2
   |_=>simp[zaI] at h2
  |_=>simp[zaI] at h2
theorem ziO{α:Type}{l:List α}{k:Nat}{d:α}(h:l[k]? =some d):l.drop k=d::l.drop (k+1):=by
 obtain⟨h1,h2⟩:=List.getElem?_eq_some_iff.mp h
 rw[List.drop_eq_getElem_cons h1,h2]
theorem zfs{K:PySem.W.Frag}{J:It}{ds:List D}{i:Nat}{ex:LW.Env->Option (Fl×LW.Env)}{W:Addr->Prop}{ρ:LW.Env}{σ:St}{H:Hp}{x:Fl×LW.Env}{D0:Ends}(hR:R K W ρ σ H)(hfr: ¬ziq ρ i)(hy:Yl K J W H ds)
  (hx:zeA i ex ds ρ=some x) (q: ∀W' σ' H',SPost K W ρ σ H W' x.2 σ' H'->FlOk K W ρ σ W' x.2 σ' H' D0 x.1):
  ∃Wv:Nat->Nat->St->Hp->Prop,(∃m,Wv 0 m σ H)/\∀k m σ' H',Wv k m σ' H'->
   (J.stop k H'/\D0.nx σ' H')\/(J.go k H'/\∃N:St->Hp->Prop,(∀σ2 H2,N σ2 H2->∃m',m'<m/\Wv (k+1) m' σ2 H2)/\∀v H2,J.yld k H' v H2->zrh i v σ' H2 fun σ2 H2=>tSs K ex { D0 with nx:=N,ct:=N,bk:=D0.nx } σ2 H2):=by
 refine⟨fun k m σ' H'=>m=ds.length-k/\k<=ds.length/\∃W' ρ',SPost K W ρ σ H W' ρ' σ' H'/\zeA i ex (ds.drop k) ρ'=some x,⟨_,rfl,Nat.zero_le _,W,ρ,.same hR (.refl H),hx⟩,?_⟩
 rintro k m σ' H' ⟨rfl,hk,W',ρ',p,hf⟩
 obtain⟨hstop,hgo⟩:=hy W' H' (p.ext hR) k
 by_cases hlt:k<ds.length
 ·have hd:ds[k]? =some ds[k]:=by simp[hlt]
  obtain⟨g1,g2⟩:=hgo _ hd
  rw[ziO hd,zeA,jo1] at hf
  obtain⟨⟨fl,ρ2⟩,e1,e2⟩:=hf
  refine .inr ⟨g1,fun σ2 H2=>(ds.length-(k+1))=ds.length-(k+1)/\k+1<=ds.length/\∃W' ρ',SPost K W ρ σ H W' ρ' σ2 H2/\zeA i ex (ds.drop (k+1)) ρ'=some x,fun σ2 H2 h=>⟨_,by omega,h⟩,fun v H2 y=>?_⟩
  obtain⟨rfl,rv⟩:=g2 v H2 y
  have p1:=zcj (i:=i) p.r (.refl H2) rv fun z=>hfr ((p.io i).1.mp z)
  have p01:=p.trans p1 hR
  refine⟨W',_,(fl,ρ2),p1.r,e1,fun W3 σ3 H3 p3=>?_⟩
  have p03:=p01.trans p3 hR
  cases fl with
  |nx=>exact⟨rfl,hlt,W3,ρ2,p03,e2⟩
  |ct=>exact⟨rfl,hlt,W3,ρ2,p03,e2⟩
  |br=>cases e2;exact q W3 σ3 H3 p03
  |rt r=>cases e2;exact fun v hv=>q W3 σ3 H3 p03 v (hv.back p01)
 ·have e:k=ds.length:=by omega
  rw[List.drop_of_length_le (by omega),zeA] at hf
  cases hf
  exact .inl ⟨hstop e,q W' σ' H' p⟩
variable {fa:Nat->List D->Option Ans} {sts:List Stmt} {ss:Ss}
theorem zkd(i:Nat){rng:Bool}{src:Es}{px:Pos}(hp:PassesOwn (model X.prog X.w) X.A X.env X.xe)(hc:X.calm=true)(hN:X.N.Nodup)(hi:X.N[i]? =some x)(hx:Loc X.env.scope x)(hs:Src X (prj fa) (.Name x px) e rng src)(hb:ISs X (zaR fa fuel ss) sts)
  (hf:X.fn x=true\/X.env.scope.names.lookup x=some .local:=by first|exact .inl rfl|exact .inr rfl|assumption) (hfo: ∀x,foldedSetIterable e X.env x=pure x:=by intro _;rfl):IS X (exS fa fuel (.for_ i rng src ss)) (.For (.Name x px) e sts [] pos):=
 .mk <| (zqq hp hc hs.h (zj1 hN hi hx hf) hb.h hfo).imp fun D0 σ H zz3=>by
  obtain⟨W,ρ,y,hR,hy,q⟩:=zz3
  simp only[zrG,jo1] at hy
  obtain⟨rs,e1,e2⟩:=hy
  split at e2
  ·cases e2
  ·rename_i hl
   simp only[Bool.not_eq_true,Bool.or_eq_false_iff,Bool.not_eq_false'] at hl
   rw[jo1] at e2
   obtain⟨ds,e3,e4⟩:=e2
   refine⟨W,ρ,rs,ds,hR,e1,e3,fun J H1 s1 _ hyl=>?_⟩
   have p1:=SPost.same hR s1
   exact zfs p1.r (zdJ hl.2) (hyl hl.1) e4 fun W' σ' H' p=>FlOk.back p1 (q W' σ' H' (p1.trans p hR))
theorem zt7(i j:Nat){y:Str}{px:Pos}(hp:PassesOwn (model X.prog X.w) X.A X.env X.xe)(hc:X.calm=true)(hN:X.N.Nodup)(hi:X.N[i]? =some x)(hx:Loc X.env.scope x)(hj:X.N[j]? =some y)(hv:Vis X.env.scope y)(hb:ISs X (zaR fa fuel ss) sts)
  (hf:X.fn x=true\/X.env.scope.names.lookup x=some .local:=by first|exact .inl rfl|exact .inr rfl|assumption) (hd:(y==("__debug__":Str))=false:=by decide) (hcd:(y==("__classdict__":Str))=false:=by decide)
  (hfo: ∀x,foldedSetIterable (.Name y p) X.env x=pure x:=by intro _;rfl):IS X (exS fa fuel (.forV i j ss)) (.For (.Name x px) (.Name y p) sts [] pos):=
 .mk <| (zqq hp hc (zqD (zfz hj hv hd hcd)) (zj1 hN hi hx hf) hb.h hfo).imp fun D0 σ H zz3=>by
  obtain⟨W,ρ,z,hR,hz,q⟩:=zz3
  simp only[zrH] at hz
  split at hz
  case isFalse=>cases hz
  rename_i hfr
  have hfr:=zdJ hfr
  simp only[jo1,zgR] at hz
  obtain⟨⟨ds,ρ1⟩,e1,e2⟩:=hz
  split at e1
  ·rename_i d h
   rw[jo2] at e1
   obtain⟨l,e3,e4⟩:=e1
   cases e4
   obtain⟨v,h1,h2⟩:=hR.val j d h
   refine⟨v,h1,?_⟩
   unfold zgs at e3
   split at e3
   ·cases e3
    cases h2 with
    |tup hq rp=>exact⟨_,rfl,.inr ⟨⟨_,.of hq⟩,zfs hR hfr (fun W' H' x k=>znm (.of (x.tup _ _ hq)) (rp.ext x) k) e2 q⟩⟩
   ·cases e3
    cases h2 with
    |lst hq rp=>exact⟨_,rfl,.inl ⟨⟨_,hq.elim (fun z=>.inl z.2) fun z=>.inr z⟩,zfs hR hfr (fun W' H' x k=>ziN (zkc hq x) (rp.ext x) k) e2 q⟩⟩
   ·cases e3
  ·rename_i o es h
   cases e1
   cases o with
   |false=>exact absurd h (hR.nol j _)
   |true=>
   obtain⟨a,xs,h1,h2,h3,h4⟩:=hR.own j _ _ h rfl
   cases h4 with
   |lst h4=>
   obtain⟨p1,rp⟩:=zdM hR h h1
   refine⟨_,h1,a,rfl,.inl ⟨⟨_,.of h3⟩,?_⟩⟩
   refine zfs p1.r (fun z=>hfr ((p1.io i).1.mp z)) (fun W' H' x k=>?_) e2 fun W' σ' H' p=>FlOk.back p1 (q W' σ' H' (p1.trans p hR))
   cases rp with
   |lst hq rp=>exact ziN (zkc hq x) (rp.ext x) k
  ·cases e1
theorem zrT(hp:PassesOwn (model X.prog X.w) X.A X.env X.xe)(hc:IT X (prj fa) c cc)(hb:ISs X (zaR fa fuel ss) sts):IS X (exS fa fuel (.while_ cc ss)) (.While c sts [] pos):=
 .mk <| (zo4 hp hc.h hb.h).imp fun D0 σ H zz3=>by
  obtain⟨W,ρ,y,hR,hy,q⟩:=zz3
  simp only[zm5] at hy
  refine⟨fun m σ' H'=>∃W' ρ',SPost X.K W ρ σ H W' ρ' σ' H'/\zcM (evT (prj fa) cc) (zaR fa fuel ss) m ρ'=some y,⟨fuel,W,ρ,.same hR (.refl H),hy⟩,?_⟩
  rintro m σ' H' ⟨W',ρ',p,hw⟩
  cases m with
  |zero=>simp[zcM] at hw
  |succ m=>
   rw[zcM,jo1] at hw
   obtain⟨k,e1,e2⟩:=hw
   refine⟨W',ρ',k,p.r,e1,fun H1 s1=>?_⟩
   have p1:=SPost.same p.r s1
   have p01:=p.trans p1 hR
   cases k with
   |false=>
    rw[if_neg Bool.false_ne_true] at e2
    cases e2
    exact zyb (q W' σ' H1 p01)
   |true=>
    rw[if_pos rfl] at e2
    rw[jo1] at e2
    obtain⟨⟨fl,ρ2⟩,e3,e4⟩:=e2
    refine zwi ⟨fun σ2 H2=>∃W' ρ',SPost X.K W ρ σ H W' ρ' σ2 H2/\zcM (evT (prj fa) cc) (zaR fa fuel ss) m ρ'=some y,fun σ2 H2 h=>⟨m,Nat.lt_succ_self m,h⟩,?_⟩
    refine⟨W',ρ',(fl,ρ2),p1.r,e3,fun W3 σ3 H3 p3=>?_⟩
    have p03:=p01.trans p3 hR
    cases fl with
    |nx=>exact⟨W3,ρ2,p03,e4⟩
    |ct=>exact⟨W3,ρ2,p03,e4⟩
    |br=>cases e4;exact q W3 σ3 H3 p03
    |rt r=>cases e4;exact fun v hv=>q W3 σ3 H3 p03 v (hv.back p01)
end
theorem ziP(io:List Nat): ∀(ds:List D) (k i:Nat),(zdI io k ds)[i]? =(ds[i]?).map fun d=>some (if io.contains (k+i) then SV.io d else .val d)
 |[],k,i=>by simp[zdI]
 |d::r,k,0=>by simp[zdI]
 |d::r,k,i+1=>by
  rw[zdI,List.getElem?_cons_succ,ziP io r (k+1) i,List.getElem?_cons_succ]
  have:k+1+i=k+(i+1):=by omega
  rw[this]
theorem zd2(io:List Nat): ∀(ds:List D) (k:Nat),(zdI io k ds).length=ds.length
 |[],k=>rfl
 |d::r,k=>by simp[zdI,zd2 io r (k+1)]
theorem zrU{io:List Nat}{ds:List D}{n:Nat}{i:Nat}{x:SV}(h:(zdI io 0 ds++List.replicate n Option.none)[i]? =some (some x)):
  ∃d,ds[i]? =some d/\x=if io.contains i then SV.io d else .val d:=by
 by_cases hi:i<ds.length
 ·rw[List.getElem?_append_left (by rw[zd2];exact hi),ziP,jo2] at h
  obtain⟨d,e1,e2⟩:=h
  rw[Nat.zero_add] at e2
  exact⟨d,e1,(Option.some.inj e2).symm⟩
 ·rw[List.getElem?_append_right (by rw[zd2];omega)] at h
  rw[List.getElem?_replicate] at h
  split at h<;>cases h
theorem zde{N:List Str}{vs:List V}{i:Nat}{v:V}(h:vs[i]? =some v):(zdW N vs)[i]? =some (some v):=by
 have hi:i<vs.length:=(List.getElem?_eq_some_iff.mp h).1
 unfold zdW
 rw[List.getElem?_append_left (by simpa using hi),List.getElem?_map,h]
 rfl
theorem zke{K:PySem.W.Frag}{W W':Addr->Prop}{H':Hp}{ρ':LW.Env}{σ':St}{vs:List V}(hR:R K W' ρ' σ' H')(sub: ∀b,W b->W' b): ∀{io:List Nat} {outs:List D},zcy ρ' io=some outs->(∀k∈io,ziq ρ' k->∃a,σ'[k]? =some (some (.ref a))/\vs[k]? =some (.ref a))->zwq K W H' io vs outs
 |[],outs,e,_=>by simp only[zcy] at e;cases e;exact .nil
 |k::r,outs,e,hs=>by
  simp only[zcy] at e
  split at e
  ·rename_i d h
   rw[jo2] at e
   obtain⟨l,e1,rfl⟩:=e
   obtain⟨a,h1,h2⟩:=hs k List.mem_cons_self ⟨d,h⟩
   obtain⟨a',o,h3,_,h5,h6⟩:=hR.own k _ d h rfl
   rw[h1] at h3;cases h3
   exact .cons ⟨a,o,h2,h5,h6.less sub⟩ (zke hR sub e1 fun j hj=>hs j (List.mem_cons_of_mem _ hj))
  ·cases e
theorem zbA{Pg:Program}{w:World}{K:PySem.W.Frag}{mg:Str->Option Value}{base:Heap}{x qual:Str}{st:Stmt}{f:Addr}{fd:FuncData}{N ps:List Str}{k n i:Nat}{P:Nat->Option Fn}{fuel:Nat}{F0:Fn}{io:List Nat}
  (F:Fun K x qual st f fd) (S:FnScope N ps (zaa st)) (hP:P i=some F0) (hnp:F0.np=ps.length) (hnl:F0.nl=N.length) (hio:F0.io=io) (hiop:io.all (fun k=>decide (k<F0.np))=true) (hxb:F0.xb=Option.none)
  (hbody: ∀(cdv:Value) (A:Around) (outer:List PySem.Env) (s:Shared) (H:Hp) (E:XK),Room k (A.deeper (envOfC qual (zaa st) s.heap.objs.size f cdv))->
   ISs (zcR CX0 Pg w K mg base N qual (zaa st) f cdv A outer s H E).nox (zaR (zaq P fuel n) fuel F0.body) (zag st)):
  FnOk Pg w K mg base CX0 (k+1) f fd ps (spA K (zaq P fuel (n+1)) i io):=by
 subst hio
 have dec: ∀{ds:List D} {r:Ans},zaq P fuel (n+1) i ds=some r->ds.length=F0.np/\zoX F0.io (zaR (zaq P fuel n) fuel F0.body (zdI F0.io 0 ds++List.replicate (F0.nl-F0.np) Option.none))=some r:=fun {ds r} h=>by
  rw[zaq,hP] at h
  simp only[Option.bind_some,hxb] at h
  split at h
  ·exact⟨by assumption,h⟩
  ·cases h
 refine F.ok S (fun vs H Q E h=>?_) (fun cdv A outer s H vs Q E hr h=>⟨_,(hbody cdv A outer s H E hr).h,?_⟩)
 ·obtain⟨W,ds,r,outs,wf,rp,e,_⟩:=h
  rw[<-rp.len,(dec e).1,hnp]
 ·obtain⟨W,ds,r,outs,wf,rp,e,q⟩:=h
  obtain⟨hl,he⟩:=dec e
  have hlv:=rp.len
  have hplN:ps.length<=N.length:=by have:=congrArg List.length S.pre;rw[List.length_take] at this;omega
  generalize hρ:zdI F0.io 0 ds++List.replicate (F0.nl-F0.np) Option.none=ρ at he
  have at_: ∀{j:Nat} {x:SV},ρ[j]? =some (some x)->∃d,ds[j]? =some d/\x=if F0.io.contains j then SV.io d else .val d:=fun {j x} h=>by rw[<-hρ] at h;exact zrU h
  have own_io: ∀a,Own ρ (zdW N vs) a->ioV F0.io vs a:=fun a zz1=>by
   obtain⟨j,x,d,h1,hc,h2⟩:=zz1
   obtain⟨d',e1,e2⟩:=at_ h1
   split at e2
   ·rename_i hj
    have hj:j∈F0.io:=by simpa using hj
    obtain⟨b,o,h3,_⟩:=rp.obj j d' e1 hj
    rw[zde h3] at h2
    cases h2
    exact⟨j,hj,h3⟩
   ·subst e2;cases hc
  have hR:R K W ρ (zdW N vs) H:=by
   refine⟨fun j d h=>?_,fun j d h=>?_,fun j x d h hc=>?_,fun j k x y d e a h1 h2 c1 c2 h3 h4=>?_,wf,?_⟩
   ·obtain⟨d',e1,e2⟩:=at_ h
    split at e2
    ·cases e2
    ·rename_i hj
     cases e2
     obtain⟨v,h1,h2⟩:=rp.val j d e1 (by simpa using hj)
     exact⟨v,zde h1,h2⟩
   ·obtain⟨d',e1,e2⟩:=at_ h
    split at e2<;>cases e2
   ·obtain⟨d',e1,e2⟩:=at_ h
    split at e2
    ·rename_i hj
     subst e2;cases hc
     obtain⟨b,o,h3,h4,h5,h6⟩:=rp.obj j d e1 (by simpa using hj)
     exact⟨b,o,zde h3,h4,h5,h6⟩
    ·subst e2;cases hc
   ·obtain⟨d1,e1,e2⟩:=at_ h1
    obtain⟨d2,e3,e4⟩:=at_ h2
    split at e2
    ·rename_i hj
     split at e4
     ·rename_i hk
      have hj:j∈F0.io:=by simpa using hj
      have hk:k∈F0.io:=by simpa using hk
      obtain⟨b,o,z1,_⟩:=rp.obj j d1 e1 hj
      obtain⟨b',o',z2,_⟩:=rp.obj k d2 e3 hk
      rw[zde z1] at h3;cases h3
      rw[zde z2] at h4;cases h4
      exact rp.inj j k _ hj hk z1 z2
     ·subst e4;cases c2
    ·subst e2;cases c1
   ·rw[<-hρ]
    unfold zdW
    rw[List.length_append,List.length_append,zd2,List.length_map,List.length_replicate,List.length_replicate]
    omega
  cases hx:zaR (zaq P fuel n) fuel F0.body ρ with
  |none=>rw[hx] at he;cases he
  |some y=>
   rw[hx] at he
   obtain⟨fl,ρ'⟩:=y
   refine⟨W,ρ,(fl,ρ'),hR,hx,fun W' σ' H' p=>?_⟩
   have kp: ∀a o,H a=some o->¬ioV F0.io vs a->H' a=some o:=fun b o h n=>p.keep b o h fun z=>n (own_io b z)
   have io_at: ∀k∈F0.io,ziq ρ' k->∃a,σ'[k]? =some (some (.ref a))/\vs[k]? =some (.ref a):=fun j hj z=>by
    have z0:=(p.io j).1.mp z
    obtain⟨d0,z1⟩:=z0
    obtain⟨d',e1,e2⟩:=at_ z1
    obtain⟨b,o,h3,_⟩:=rp.obj j d' e1 hj
    exact⟨b,by rw[(p.io j).2 ⟨d0,z1⟩,zde h3],h3⟩
   have sub: ∀b,W b->W' b:=fun b w=>by
    by_cases hb:Own ρ (zdW N vs) b
    ·obtain⟨j,x,d,h1,hc,h2⟩:=hb
     obtain⟨d',e1,e2⟩:=at_ h1
     split at e2
     ·subst e2
      obtain⟨d2,z⟩:=(p.io j).1.mpr ⟨d',h1⟩
      obtain⟨a',o,h3,h4,_⟩:=p.r.own j _ d2 z rfl
      rw[(p.io j).2 ⟨d',h1⟩,h2] at h3
      cases h3
      exact h4
     ·subst e2;cases hc
    ·exact (p.wout b w hb).1
   cases fl with
   |br=>cases he
   |ct=>cases he
   |nx=>
    simp only[zoX,jo2] at he
    obtain⟨l,e1,e2⟩:=he
    cases e2
    exact q _ H' kp (zke p.r sub e1 io_at) (.val .non)
   |rt r'=>
    simp only[zoX,jo2] at he
    obtain⟨l,e1,e2⟩:=he
    cases e2
    intro v hv
    have ho:=zke p.r sub e1 io_at
    cases hv with
    |val h=>exact q v H' kp ho (.val (h.less sub))
    |new h nn n' eL rr=>
     have ha:=(p.win _ h).resolve_left fun w=>nn ⟨w,fun zz0=>by
      obtain⟨j,x,d,h1,hc,h2⟩:=zz0
      obtain⟨d',e1,e2⟩:=at_ h1
      split at e2
      ·subst e2;exact n' ⟨j,⟨d',h1⟩,h2⟩
      ·subst e2;cases hc⟩
     refine q _ H' kp ho (.new ha eL (rr.less fun b w=>?_))
     rcases w with w|rfl
     ·exact sub b w
     ·exact h
end L2.LW
set_option maxHeartbeats 4000000
namespace L2.LW
open PySem PySem.Spec PyProof.Rows
noncomputable def zjW(env:PySem.Env):List (Str×NameKind)->List (Str×Addr)->List (Str×Addr)
 |[],acc=>acc
 |(n,k)::r,acc=>if k== .free then zjW env r ((n,(env.cells.lookup n).getD 0)::acc) else zjW env r acc
theorem zgU(env:PySem.Env): ∀(names:List (Str×NameKind)) (acc:List (Str×Addr)),(∀y∈names,y.2= .free->(env.cells.lookup y.1).isSome=true)->
  (forIn names acc fun (x:Str×NameKind) (cs:List (Str×Addr))=>(if (x.2==NameKind.free)=true then (do let c <-cellOf env x.1;pure (ForInStep.yield ((x.1,c)::cs)):Sem (ForInStep (List (Str×Addr)))) else pure (ForInStep.yield cs)))=(pure (zjW env names acc):Sem (List (Str×Addr)))
 |[],acc,_=>rfl
 |(n,k)::r,acc,h=>by
  have ih:=fun acc=>zgU env r acc fun y hy=>h y (List.mem_cons_of_mem _ hy)
  rw[List.forIn_cons]
  by_cases hk:(k==NameKind.free)=true
  ·have hs:=h (n,k) List.mem_cons_self (by simpa using hk)
   obtain⟨c,hc⟩:=Option.isSome_iff_exists.mp hs
   have hc:env.cells.lookup n=some c:=hc
   simp only[hk,if_true,cellOf,hc,zjW,Option.getD_some]
   show (forIn r ((n,c)::acc) _:Sem _)=_
   exact ih _
  ·simp only[hk,if_false,zjW]
   show (forIn r acc _:Sem _)=_
   exact ih _
theorem zfI{scope:Scope}{env:PySem.Env}(h: ∀y∈scope.names,y.2= .free->(env.cells.lookup y.1).isSome=true):closureFor scope env=pure (zjW env scope.names []):=by
 have key:closureFor scope env=((forIn scope.names ([]:List (Str×Addr)) fun (x:Str×NameKind) (cs:List (Str×Addr))=>
  (if (x.2==NameKind.free)=true then (do let c <-cellOf env x.1;pure (ForInStep.yield ((x.1,c)::cs)):Sem (ForInStep (List (Str×Addr)))) else pure (ForInStep.yield cs))) >>= fun cs=>pure cs):=rfl
 rw[key,zgU env scope.names [] h]
 rfl
theorem zcG{env:PySem.Env}{y:Str}{c:Addr}: ∀{names:List (Str×NameKind)} {acc:List (Str×Addr)},(∀z∈names,z.2= .free->(env.cells.lookup z.1).isSome=true)->(zjW env names acc).lookup y=some c->
  acc.lookup y=some c\/env.cells.lookup y=some c
 |[],_,_,e=>.inl e
 |(n,k)::r,acc,h,e=>by
  unfold zjW at e
  split at e
  ·rename_i hk
   rcases zcG (fun z hz=>h z (List.mem_cons_of_mem _ hz)) e with q|q
   ·rw[List.lookup_cons] at q
    split at q
    ·rename_i hy
     have hy:y=n:=by simpa using hy
     subst hy
     obtain⟨c',hc⟩:=Option.isSome_iff_exists.mp (h (y,k) List.mem_cons_self (by simpa using hk))
     have hc:env.cells.lookup y=some c':=hc
     rw[hc] at q
     cases q
     exact .inr hc
    ·exact .inl q
   ·exact .inr q
  ·exact zcG (fun z hz=>h z (List.mem_cons_of_mem _ hz)) e
theorem zhA{env:PySem.Env}{y:Str}: ∀{names:List (Str×NameKind)} {acc:List (Str×Addr)},((acc.lookup y).isSome=true\/(y,NameKind.free)∈names)->((zjW env names acc).lookup y).isSome=true
 |[],acc,h=>by
  rcases h with h|h
  ·exact h
  ·cases h
 |(n,k)::r,acc,h=>by
  unfold zjW
  split
  ·rename_i hk
   refine zhA ?_
   by_cases e:y=n
   ·subst e;exact .inl (by simp)
   ·have hb:(y==n)=false:=by simpa using e
    rcases h with h|h
    ·exact .inl (by rw[List.lookup_cons,hb];exact h)
    ·rcases List.mem_cons.mp h with z|z
     ·cases z;exact absurd rfl e
     ·exact .inr z
  ·rename_i hk
   refine zhA ?_
   rcases h with h|h
   ·exact .inl h
   ·rcases List.mem_cons.mp h with z|z
    ·cases z;exact absurd rfl hk
    ·exact .inr z
noncomputable def zqE(x:Str)(N:List Str):List Str:=N.map fun y=>if y=x then ("":Str) else y
noncomputable def zdv(scope:Scope)(x:Str)(c:Addr)(cl:List (Str×Addr)):List (Str×Addr):=if scope.names.lookup x=some .cell then (x,c)::cl else cl
noncomputable def zbG(X:Cx)(scope:Scope)(x:Str)(s₃:Shared)(H₃:Hp)(fp:List Addr)(pins:List (Addr×Obj)):Cx:=
 { X with N:=x::zqE x X.N,s₀:=s₃,H₀:=H₃,env:=compEnvC scope (zdv scope x (s₃.heap.objs.size+1) (zjW X.env scope.names [])) s₃.heap.objs.size X.env,outer:=X.stack,stack:=X.stack,ex:=fp,fn:=fun y=>decide (y=x)&&decide (scope.names.lookup x=some .cell),pn:=X.pn++pins,xe:=fun _ _=>False }
structure CompSc (X:Cx)(scope:Scope)(x:Str):Prop where
 kind:scope.kind= .function
 loc:scope.names.lookup x=some .local\/scope.names.lookup x=some .cell
 names: ∀y∈scope.names,y.2= .local->scope.names.lookup y.1=some .local
 cell1:scope.names.filter (fun y=>y.2== .cell)=if scope.names.lookup x=some .cell then [(x,.cell)] else []
 free: ∀y∈scope.names,y.2= .free->X.env.scope.names.lookup y.1=some .cell\/X.env.scope.names.lookup y.1=some .free
 own: ∀y∈X.N,scope.names.lookup y=some .local->y=x
 none:scope.names.lookup ("":Str)=Option.none
 nd:(x::zqE x X.N).Nodup
theorem zdf{y:Str}{k:NameKind}: ∀{l:List (Str×NameKind)},l.lookup y=some k->(y,k)∈l
 |[],h=>by cases h
 |(n,j)::r,h=>by
  rw[List.lookup_cons] at h
  split at h
  ·rename_i e
   have e:y=n:=by simpa using e
   cases h;subst e
   exact List.mem_cons_self
  ·exact List.mem_cons_of_mem _ (zdf h)
theorem zbk{env:PySem.Env}{y:Str}{k:NameKind}: ∀{names:List (Str×NameKind)},
  (names.map fun (z:Str×NameKind)=>match z with|(n,k)=>if (k==NameKind.free&&env.scope.kind== .function&&env.kindOf n==some .cell)=true then (n,NameKind.cell) else (n,k)).lookup y=some k->
  names.lookup y=some k\/(k= .cell/\names.lookup y=some .free)
 |[],h=>by cases h
 |(n,j)::r,h=>by
  rw[List.map_cons,List.lookup_cons] at h
  rw[List.lookup_cons]
  by_cases hc:(j==NameKind.free&&env.scope.kind== .function&&env.kindOf n==some .cell)=true
  ·simp only[hc,if_true] at h
   cases e:y==n with
   |true=>
    rw[e] at h
    cases h
    have hj:j= .free:=by
     simp only[Bool.and_eq_true] at hc
     simpa using hc.1.1
    exact .inr ⟨rfl,by rw[hj]⟩
   |false=>rw[e] at h;exact zbk h
  ·simp only[hc,Bool.false_eq_true,if_false] at h
   cases e:y==n with
   |true=>rw[e] at h;exact .inl h
   |false=>rw[e] at h;exact zbk h
section
variable {X:Cx} {scope:Scope} {x:Str} {s₃:Shared} {H₃:Hp} {fp:List Addr} {pins:List (Addr×Obj)} {σ:St}
theorem CompSc.onlyC(S:CompSc X scope x){y:Str}(h:scope.names.lookup y=some .cell):y=x/\scope.names.lookup x=some .cell:=by
 have hm:(y,NameKind.cell)∈scope.names.filter (fun y=>y.2== .cell):=List.mem_filter.mpr ⟨zdf h,rfl⟩
 rw[S.cell1] at hm
 split at hm
 ·simp at hm;subst hm;exact⟨rfl,h⟩
 ·cases hm
theorem zd3{x:Str}: ∀(names:List (Str×NameKind)) (a:Nat) (acc:List (Str×Addr)) (h:Heap),names.filter (fun y=>y.2== .cell)=[(x,.cell)]->cellsFrom a names acc=(x,a)::acc/\pushCells h names=h.push { cls:=.type "cell",data:=.cell Option.none }
 |[],_,_,_,e=>by cases e
 |(n,k)::r,a,acc,h,e=>by
  have none_: ∀(names:List (Str×NameKind)) (a:Nat) (acc:List (Str×Addr)) (h:Heap),names.filter (fun y=>y.2== .cell)=[]->cellsFrom a names acc=acc/\pushCells h names=h:=by
   intro names
   induction names with
   |nil=>intro a acc h _;exact⟨rfl,rfl⟩
   |cons y r ih=>
    intro a acc h e
    obtain⟨n,k⟩:=y
    rw[List.filter_cons] at e
    split at e
    ·cases e
    ·rename_i hk
     have hk:(k==NameKind.cell)=false:=by simpa using hk
     unfold cellsFrom pushCells
     rw[hk]
     exact ih a acc h e
  rw[List.filter_cons] at e
  split at e
  ·rename_i hk
   injection e with e1 e2
   cases e1
   unfold cellsFrom pushCells
   simp only[beq_self_eq_true,if_true]
   exact none_ r _ _ _ e2
  ·rename_i hk
   have hk:(k==NameKind.cell)=false:=by simpa using hk
   unfold cellsFrom pushCells
   rw[hk]
   exact zd3 r a acc h e
theorem zdw: ∀(names:List (Str×NameKind)) (a:Nat) (acc:List (Str×Addr)) (h:Heap),names.filter (fun y=>y.2== .cell)=[]->cellsFrom a names acc=acc/\pushCells h names=h
 |[],_,_,_,_=>⟨rfl,rfl⟩
 |(n,k)::r,a,acc,h,e=>by
  rw[List.filter_cons] at e
  split at e
  ·cases e
  ·rename_i hk
   have hk:(k==NameKind.cell)=false:=by simpa using hk
   unfold cellsFrom pushCells
   rw[hk]
   exact zdw r a acc h e
theorem zkf{M:Model}{A:Around}{E:Value->Shared->Prop}{s:Shared}{globals:Addr}{cl:List (Str×Addr)}{qual:Str}{env:PySem.Env}{Q:PySem.Env->Shared->Prop}(S:CompSc X scope x)
  (h: ∀h₁,h₁.Ns s.heap.objs.size (fun _=>Option.none)->(∀b o,s.heap.get? b=some o->h₁.get? b=some o)->(scope.names.lookup x=some .cell->h₁.IsCell (s.heap.objs.size+1) Option.none)->
   Q (newEnv scope s.heap.objs.size globals (zdv scope x (s.heap.objs.size+1) cl) qual Option.none .none (some env) builtinsNs) { s with heap:=h₁ }):
  wpAny M A (newFunctionEnv scope globals cl [] qual Option.none .none (some env)) Q E s:=by
 simp only[newFunctionEnv,Option.isSome_some,if_true]
 refine wpAny_bind (wpAny_alloc ?_)
 refine wpAny_bind (wpAny_layCells _ (fun name kind cells=>by cases hkc:kind==NameKind.cell<;>simp[hkc]) _ _ _ _ ?_)
 rw[List.forIn_nil]
 refine wpAny_bind (wpAny_pure (wpAny_pure ?_))
 rw[show ({ s with heap:=s.heap.push { cls:=.type "dict",data:=.dict #[] } }:Shared).heap.objs.size=s.heap.objs.size+1 from Heap.size_push ..]
 have hc:=S.cell1
 by_cases hx:scope.names.lookup x=some .cell
 ·rw[if_pos hx] at hc
  obtain⟨e1,e2⟩:=zd3 (x:=x) scope.names (s.heap.objs.size+1) cl (s.heap.push { cls:=.type "dict",data:=.dict #[] }) hc
  have h':=h (pushCells (s.heap.push { cls:=.type "dict",data:=.dict #[] }) scope.names) ((Heap.Ns.new s.heap (.type "dict")).keeps (pushCells_keeps _ _)) (fun b o e=>pushCells_keeps _ _ b o (Heap.get?_push_of_some _ e)) (fun _=>by
   rw[e2]
   have:(s.heap.push { cls:=.type "dict",data:=.dict #[] }).objs.size=s.heap.objs.size+1:=Heap.size_push ..
   rw[<-this]
   exact⟨_,Heap.get?_push_size _ rfl,rfl⟩)
  rw[e1]
  unfold zdv at h'
  rw[if_pos hx] at h'
  exact h'
 ·rw[if_neg hx] at hc
  obtain⟨e1,e2⟩:=zdw scope.names (s.heap.objs.size+1) cl (s.heap.push { cls:=.type "dict",data:=.dict #[] }) hc
  have h':=h (pushCells (s.heap.push { cls:=.type "dict",data:=.dict #[] }) scope.names) ((Heap.Ns.new s.heap (.type "dict")).keeps (pushCells_keeps _ _)) (fun b o e=>pushCells_keeps _ _ b o (Heap.get?_push_of_some _ e)) (fun z=>absurd z hx)
  rw[e1]
  unfold zdv at h'
  rw[if_neg hx] at h'
  exact h'
theorem CompSc.cells(S:CompSc X scope x)(ok:X.Ok): ∀y∈scope.names,y.2= .free->(X.env.cells.lookup y.1).isSome=true:=fun y hy hk=>by
 obtain⟨c,hc⟩:=ok.has y.1 (S.free y hy hk)
 rw[hc];rfl
theorem CompSc.look(S:CompSc X scope x)(ok:X.Ok){y:Str}{c:Addr}(h:(zbG X scope x s₃ H₃ fp pins).env.cells.lookup y=some c):
  (y=x/\scope.names.lookup x=some .cell/\c=s₃.heap.objs.size+1)\/((y≠x\/scope.names.lookup x≠some .cell)/\X.env.cells.lookup y=some c):=by
 have h:(zdv scope x (s₃.heap.objs.size+1) (zjW X.env scope.names [])).lookup y=some c:=h
 have old:(zjW X.env scope.names []).lookup y=some c->X.env.cells.lookup y=some c:=fun h=>by
  rcases zcG (S.cells ok) h with q|q
  ·cases q
  ·exact q
 unfold zdv at h
 split at h
 ·rename_i hc
  rw[List.lookup_cons] at h
  split at h
  ·rename_i e
   cases h
   exact .inl ⟨by simpa using e,hc,rfl⟩
  ·rename_i e
   exact .inr ⟨.inl (by simpa using e),old h⟩
 ·rename_i hc
  exact .inr ⟨.inr hc,old h⟩
theorem CompSc.kindOf(S:CompSc X scope x){y:Str}(h:(zbG X scope x s₃ H₃ fp pins).env.kindOf y=some .cell\/(zbG X scope x s₃ H₃ fp pins).env.kindOf y=some .free):scope.names.lookup y=some .free\/(y=x/\scope.names.lookup x=some .cell):=by
 rcases h with h|h
 ·rcases zbk (show _=_ from h) with q|⟨_,q⟩
  ·exact .inr (S.onlyC q)
  ·exact .inl q
 ·rcases zbk (show _=_ from h) with q|⟨z,q⟩
  ·exact .inl q
  ·cases z
theorem CompSc.has(S:CompSc X scope x){y:Str}(h:scope.names.lookup y=some .free): ∃c,(zbG X scope x s₃ H₃ fp pins).env.cells.lookup y=some c/\(zjW X.env scope.names []).lookup y=some c:=by
 obtain⟨c,hc⟩:=Option.isSome_iff_exists.mp (zhA (env:=X.env) (names:=scope.names) (acc:=[]) (y:=y) (.inr (zdf h)))
 refine⟨c,?_,hc⟩
 show (zdv scope x (s₃.heap.objs.size+1) (zjW X.env scope.names [])).lookup y=some c
 unfold zdv
 split
 ·rename_i hx
  have:(y==x)=false:=by
   cases e:y==x with
   |false=>rfl
   |true=>
    have e:y=x:=by simpa using e
    subst e;rw[h] at hx;cases hx
  rw[List.lookup_cons,this]
  exact hc
 ·exact hc
theorem zcY{env:PySem.Env}{y:Str}: ∀{names:List (Str×NameKind)},names.lookup y=some .cell->
  (names.map fun (z:Str×NameKind)=>match z with|(n,k)=>if (k==NameKind.free&&env.scope.kind== .function&&env.kindOf n==some .cell)=true then (n,NameKind.cell) else (n,k)).lookup y=some .cell
 |[],h=>by cases h
 |(n,j)::r,h=>by
  rw[List.lookup_cons] at h
  rw[List.map_cons,List.lookup_cons]
  by_cases hc:(j==NameKind.free&&env.scope.kind== .function&&env.kindOf n==some .cell)=true
  ·simp only[hc,if_true]
   cases e:y==n with
   |true=>rfl
   |false=>rw[e] at h;exact zcY h
  ·simp only[hc,Bool.false_eq_true,if_false]
   cases e:y==n with
   |true=>rw[e] at h;exact h
   |false=>rw[e] at h;exact zcY h
theorem CompSc.locX(S:CompSc X scope x):Loc (zbG X scope x s₃ H₃ fp pins).env.scope x:=by
 rcases S.loc with h|h
 ·exact .inl (lookup_relabel_local h)
 ·exact .inr (zcY h)
theorem CompSc.fnX(S:CompSc X scope x):(zbG X scope x s₃ H₃ fp pins).fn x=true\/(zbG X scope x s₃ H₃ fp pins).env.scope.names.lookup x=some .local:=by
 rcases S.loc with h|h
 ·exact .inr (lookup_relabel_local h)
 ·left
  show (decide (x=x)&&decide (scope.names.lookup x=some .cell))=true
  simp[h]
theorem znn(S:CompSc X scope x)(I:Inv X pins σ H₃ s₃)(hf: ∀b∈fp,zmt X pins H₃ b)(hlt: ∀b∈fp,b<s₃.heap.objs.size):(zbG X scope x s₃ H₃ fp pins).Ok where
 mod:=I.ok.mod
 kind:=S.kind
 glob:=I.ok.glob
 blt:=I.ok.blt
 above:=Nat.le_refl _
 inj:=fun y z c h1 h2=>by
  have old: ∀{y:Str} {c:Addr},X.env.cells.lookup y=some c->c<s₃.heap.objs.size:=fun {y c} h=>by
   obtain⟨v,o,ho,_⟩:=I.cell y c h
   exact Heap.lt_size ho
  rcases S.look I.ok h1 with ⟨e1,_,e2⟩|⟨_,q1⟩
  ·rcases S.look I.ok h2 with ⟨e3,_,e4⟩|⟨_,q2⟩
   ·rw[e1,e3]
   ·have:=old q2;rw[e2] at this;exact absurd this (Nat.not_lt.mpr (Nat.le_succ _))
  ·rcases S.look I.ok h2 with ⟨e3,_,e4⟩|⟨_,q2⟩
   ·have:=old q1;rw[e4] at this;exact absurd this (Nat.not_lt.mpr (Nat.le_succ _))
   ·exact I.ok.inj y z c q1 q2
 has:=fun y h=>by
  rcases S.kindOf h with q|⟨q1,q2⟩
  ·obtain⟨c,hc,_⟩:=S.has (s₃:=s₃) (H₃:=H₃) (fp:=fp) (pins:=pins) q
   exact⟨c,hc⟩
  ·refine⟨s₃.heap.objs.size+1,?_⟩
   show (zdv scope x (s₃.heap.objs.size+1) (zjW X.env scope.names [])).lookup y=_
   unfold zdv
   rw[if_pos q2,q1,List.lookup_cons,beq_self_eq_true]
 cab:=fun y c h hc=>by
  have h:(decide (y=x)&&decide (scope.names.lookup x=some .cell))=true:=h
  rw[Bool.and_eq_true,decide_eq_true_iff,decide_eq_true_iff] at h
  rcases S.look I.ok hc with ⟨_,_,e⟩|⟨q,_⟩
  ·rw[e];exact Nat.le_succ _
  ·exact absurd h (fun z=>q.elim (fun w=>w z.1) fun w=>w z.2)
 hd:=I.ok.hd
 frames:=I.ok.frames
 stk:=.inl rfl
 exf:=fun b hb=>⟨Nat.ne_of_lt (hlt b hb),fun y c h=>by
  rcases S.look I.ok h with ⟨_,_,e⟩|⟨_,q⟩
  ·rw[e];exact fun z=>absurd (z▸hlt b hb) (Nat.not_lt.mpr (Nat.le_succ _))
  ·exact (hf b hb).2.2.2.2.1 y c q⟩
 bs:=I.bs
 bsz:=Nat.le_trans I.ok.bsz I.sz
 noex:=fun b o e hb=>by
  obtain⟨_,_,_,h,_⟩:=hf b hb
  rcases h with h|h
  ·exact I.ok.noex b o e h
  ·exact absurd (Nat.lt_of_lt_of_le (Heap.lt_size e) (Nat.le_trans I.ok.bsz h)) (Nat.lt_irrefl _)
 exfs:=fun b hb hz=>by
  obtain⟨_,h1,h2,_⟩:=hf b hb
  rcases List.mem_cons.mp (I.stkSub b hz) with e|e
  ·exact h1 e
  ·exact h2 e
 funs:=I.stack
 frf:=I.stkFree
theorem zpr{N:List Str}{i:Nat}{y:Str}(h:(zqE x N)[i]? =some y): ∃z,N[i]? =some z/\((z=x/\y="")\/(z≠x/\y=z)):=by
 unfold zqE at h
 rw[List.getElem?_map,jo2] at h
 obtain⟨z,e1,e2⟩:=h
 refine⟨z,e1,?_⟩
 split at e2
 ·exact .inl ⟨by assumption,e2.symm⟩
 ·exact .inr ⟨by assumption,e2.symm⟩
theorem zps{h₁:Heap}{tk:Nat}(S:CompSc X scope x)(I:Inv X pins σ H₃ s₃)(hf: ∀b∈fp,zmt X pins H₃ b)(hlt: ∀b∈fp,b<s₃.heap.objs.size)(hns:h₁.Ns s₃.heap.objs.size fun _=>Option.none)
  (hk: ∀b o,s₃.heap.get? b=some o->h₁.get? b=some o) (zgr:scope.names.lookup x=some .cell->h₁.IsCell (s₃.heap.objs.size+1) Option.none):Inv (zbG X scope x s₃ H₃ fp pins) [] (Option.none::σ) H₃ { s₃ with heap:=h₁,toks:=tk }:=by
 refine⟨znn S I hf hlt,rfl,I.bare,Un.kept hk,⟨_,hns,fun i y v h1 h2 h3=>?_⟩,fun y c h=>?_,I.hok.fresh (Nat.le_refl _),fun y c h=>?_,fun p hp=>?_,I.hok.kept hk,?_⟩
 ·cases i with
  |zero=>cases h2
  |succ i=>
   have h1:(zqE x X.N)[i]? =some y:=h1
   have h2:σ[i]? =some (some v):=h2
   obtain⟨z,e1,e2⟩:=zpr h1
   have vis:scope.names.lookup y=some .local\/scope.names.lookup y=some .free:=by
    rcases h3 with q|q
    ·rcases zbk (show _=_ from q) with q|⟨z,q⟩
     ·exact .inl q
     ·cases z
    ·rcases S.kindOf q with q|⟨q,_⟩
     ·exact .inr q
     ·exfalso
      rcases e2 with ⟨_,z⟩|⟨ne,z⟩
      ·have hx:x="":=q.symm.trans z
       have hn:=S.none
       rw[<-hx] at hn
       rcases S.loc with w|w<;>rw[hn] at w<;>cases w
      ·exact ne (z.symm.trans q)
   rcases e2 with ⟨rfl,rfl⟩|⟨ne,rfl⟩
   ·rw[S.none] at vis
    rcases vis with q|q<;>cases q
   ·rcases vis with q|q
    ·exact absurd (S.own y (List.mem_of_getElem? e1) q) ne
    ·have kx:=S.free _ (zdf q) rfl
     obtain⟨m,_,hl⟩:=I.loc
     obtain⟨u,ru,l⟩:=hl i y v e1 h2 (.inr kx)
     refine⟨u,ru,.inr ⟨?_,?_⟩⟩
     ·rcases h3 with q'|q'
      ·rcases zbk (show _=_ from q') with q'|⟨z,_⟩
       ·rw[q] at q';cases q'
       ·cases z
      ·exact q'
     ·rcases l with ⟨k,_⟩|⟨_,c,hc,hcell'⟩
      ·have k:X.env.scope.names.lookup y=some .local:=k
       rcases kx with z|z
       ·have z:X.env.scope.names.lookup y=some .cell:=z
        rw[z] at k;cases k
       ·have z:X.env.scope.names.lookup y=some .free:=z
        rw[z] at k;cases k
      ·obtain⟨c',hc',hc2⟩:=S.has (s₃:=s₃) (H₃:=H₃) (fp:=fp) (pins:=pins) q
       have e:X.env.cells.lookup y=some c':=by
        rcases zcG (S.cells I.ok) hc2 with q|q
        ·cases q
        ·exact q
       rw[hc] at e
       cases e
       obtain⟨o,ho,hd⟩:=hcell'
       exact⟨c,hc',o,hk _ _ ho,hd⟩
 ·rcases S.look I.ok h with ⟨_,q,e⟩|⟨_,q⟩
  ·rw[e];exact⟨Option.none,zgr q⟩
  ·obtain⟨v,o,ho,hd⟩:=I.cell y c q
   exact⟨v,o,hk _ _ ho,hd⟩
 ·rcases S.look I.ok h with ⟨_,q,e⟩|⟨_,q⟩
  ·rw[e];exact I.hok.fresh (Nat.le_succ _)
  ·exact I.freeC y c q
 ·have hp:p∈X.pn++pins:=by simpa [zbG] using hp
  obtain⟨e,n,ne,nf,d⟩:=I.pin p hp
  refine⟨hk _ _ e,n,Nat.ne_of_lt (Heap.lt_size e),fun z=>?_,d⟩
  rcases List.mem_cons.mp (I.stkSub _ z) with q|q
  ·exact ne q
  ·exact nf q
 ·show σ.length+1=(x::zqE x X.N).length
  unfold zqE
  rw[List.length_cons,List.length_map,I.len]
theorem zno{s':Shared}{h':Heap}{H':Hp}{σ':St}{ps:List (Addr×Obj)}(I:Inv X pins σ H₃ s₃)(hf: ∀b∈fp,zmt X pins H₃ b)(J:Inv (zbG X scope x s₃ H₃ fp pins) ps σ' H' s')(hs:Heap.SameBut s₃.heap.objs.size s'.heap h'):
  Inv X pins σ H' { s' with heap:=h' }:=by
 have ne: ∀b o,s₃.heap.get? b=some o->b≠s₃.heap.objs.size:=fun b o e=>Nat.ne_of_lt (Heap.lt_size e)
 have fr:H' s₃.heap.objs.size=Option.none:=J.free
 have same: ∀b,b≠s₃.heap.objs.size->h'.get? b=s'.heap.get? b:=fun b hb=>hs.2 b hb
 refine I.call' (s':={ s' with heap:=h' }) (ch:=fp) J.os ⟨fun b o e n hb hx=>?_,fun b o e n hb hx=>?_,fun b o e n hx=>J.base.free b o e n hx,fun b o e hx=>?_,J.base.tups,J.base.frzs,J.base.tbls⟩ (fun b o e=>?_) J.bare fun b hb=>?_
 ·exact (same b (ne b o e)).trans (J.base.keep b o e n hb hx)
 ·obtain⟨sl,q⟩:=J.base.slot b o e n hb hx
  exact⟨sl,(same b (ne b o e)).trans q⟩
 ·obtain⟨o',q⟩:=J.base.there b o e hx
  exact⟨o',(same b (ne b o e)).trans q⟩
 ·refine (J.hok b o e).stay (fun c v hc q=>(same c ?_).trans q) (fun _ q=>q) fun _ _ q=>q
  intro z
  rcases hc with w|w
  ·rw[<-w,z,fr] at e;cases e
  ·rw[z,fr] at w;cases w
 ·obtain⟨_,h1,_,h3,h4,h5⟩:=hf b hb
  exact⟨h3,h1,h4,h5⟩
end
theorem zlT{prog:Program}{w:World}{A:Around}{E:Result->Shared->Prop}{s:Shared}{elt target iter:Expr}{ifs:List Expr}{scope:Scope}{pos:Pos}{it acc:Value}{env:PySem.Env}(J:Nat->Shared->Prop)
  (turn: ∀n s,J n s->wpAny (model prog w) A (pyNext it) (fun r s1=>match r with
   |Option.none=>E (.ok .next) s1
   |some v=>wpAny (model prog w) A (letOwnedTupleGo target it v) (fun _ s2=>wpAny (model prog w) A (assign target env v) (fun _ s3=>
     wpAny (model prog w) A (forIn ifs true fun c r=>if r=true then do let ok <-isTrue c env (eval c env);pure (ForInStep.yield ok) else pure (ForInStep.yield r)) (fun ok s4=>
      if ok=true then wpAny (model prog w) A (eval elt env) (fun y s5=>wpAny (model prog w) A (call (.builtin "list.append") [acc,y]) (fun _ s6=>∃m,m<n/\J m s6) (fun _ _=>False) s5) (fun _ _=>False) s4
      else ∃m,m<n/\J m s4) (fun _ _=>False) s3) (fun _ _=>False) s2) (fun _ _=>False) s1) (fun _ _=>False) s)
  (n:Nat) (h:J n s):codeAny (model prog w) A (.compLoop (.ListComp elt [⟨target,iter,ifs,0⟩] scope pos) 0 it acc env) E s:=by
 refine codeAny_loop rfl J (fun n s hJ=>?_) n h
 show wpAny _ _ ((compTurn (.ListComp elt [⟨target,iter,ifs,0⟩] scope pos) 0 it acc env).onRaise _) _ _ s
 refine wpAny_noted ?_
 rw[compTurn_list]
 have no: ∀(e:Value) (s':Shared),False->notedBy (model prog w) A env (fun e s'=>E (.error e) s') e s':=fun _ _ z=>z.elim
 refine wpAny_bind (wpAny_standAt (wpAny_bind (wpAny_mono (turn n s hJ) (fun r s1 h1=>?_) no)))
 cases r with
 |none=>exact wpAny_pure h1
 |some v=>
  refine wpAny_bind (wpAny_mono h1 (fun _ s2 h2=>?_) no)
  refine wpAny_bind (wpAny_mono h2 (fun _ s3 h3=>wpAny_bind (wpAny_mono h3 (fun ok s4 h4=>?_) no)) no)
  cases ok with
  |false=>exact wpAny_pure ⟨rfl,h4⟩
  |true=>exact wpAny_bind (wpAny_bind (wpAny_mono h4 (fun y s5 h5=>wpAny_bind (wpAny_mono h5 (fun _ s6 h6=>wpAny_pure (wpAny_pure ⟨rfl,h6⟩)) no)) no))
theorem R.cons{K:PySem.W.Frag}{W:Addr->Prop}{ρ:LW.Env}{σ:St}{H:Hp}{d:D}{v:V}(r:R K W ρ σ H)(h:Rep K W H d v):R K W (some (.val d)::ρ) (some v::σ) H:=by
 refine⟨fun i e hi=>?_,fun i e hi=>?_,fun i x e hi hc=>?_,fun i j x y d e a h1 h2 c1 c2 h3 h4=>?_,r.wf,by simpa using r.len⟩
 ·cases i with
  |zero=>cases hi;exact⟨v,rfl,h⟩
  |succ i=>exact r.val i e hi
 ·cases i with
  |zero=>cases hi
  |succ i=>exact r.nol i e hi
 ·cases i with
  |zero=>cases hi;cases hc
  |succ i=>exact r.own i x e hi hc
 ·cases i with
  |zero=>cases h1;cases c1
  |succ i=>
   cases j with
   |zero=>cases h2;cases c2
   |succ j=>rw[r.inj i j x y d e a h1 h2 c1 c2 h3 h4]
noncomputable def zk1(X:Cx)(fn:Nat->List D->Option SV)(scope:Scope)(x:Str)(ifs:List Expr)(cond:E):Prop:=
 (ifs=[]/\cond= .bl true)\/∃c,ifs=[c]/\∀s₃ H₃ fp pins,IT (zbG X scope x s₃ H₃ fp pins) fn c cond
section
variable {X:Cx} {fn:Nat->List D->Option SV}
theorem zpt{scope:Scope}{x:Str}{ifs:List Expr}{cond:E}{s₃:Shared}{H₃:Hp}{fp:List Addr}{pins ps:List (Addr×Obj)}{σ:St}{H:Hp}{s:Shared}{W:Addr->Prop}{ρ:LW.Env}{k:Bool}{Q:Bool->Hp->Prop}
  (hc:zk1 X fn scope x ifs cond) (I:Inv (zbG X scope x s₃ H₃ fp pins) ps σ H s) (hR:R X.K W ρ σ H) (he:evT fn cond ρ=some k) (q: ∀H',Same H H'->Q k H'):
  wpAny (model X.prog X.w) X.A (forIn ifs true fun c r=>if r=true then do let ok <-isTrue c (zbG X scope x s₃ H₃ fp pins).env (eval c (zbG X scope x s₃ H₃ fp pins).env);pure (ForInStep.yield ok) else pure (ForInStep.yield r))
   (TP (zbG X scope x s₃ H₃ fp pins) ps σ Q) (fun _ _=>False) s:=by
 rcases hc with ⟨rfl,rfl⟩|⟨c,rfl,hc⟩
 ·simp only[zyt] at he
  cases he
  exact wpAny_tests_nil ⟨H,I,q H (.refl H)⟩
 ·exact wpAny_tests_one ((hc s₃ H₃ fp pins).h ps s σ H Q I ⟨W,ρ,k,hR,he,q⟩)
theorem zfJ{test:D->Option Bool}{elt:D->Option SV}: ∀{ds out:List D},zdG test elt ds=some out->out.length<=ds.length
 |[],_,h=>by simp only[zdG] at h;cases h;exact Nat.le_refl _
 |d::r,out,h=>by
  simp only[zdG,jo1] at h
  obtain⟨b,e1,e2⟩:=h
  cases b with
  |true=>
   simp only[jo1,jo2] at e2
   obtain⟨_,_,_,_,l,e3,rfl⟩:=e2
   have:=zfJ e3
   simp;omega
  |false=>have:=zfJ e2;simp;omega
theorem zrV{scope:Scope}{x:Str}{s₃:Shared}{H₃ H':Hp}{fp:List Addr}{pins:List (Addr×Obj)}{σ:St}(S:CompSc X scope x)(I:Inv X pins σ H₃ s₃)(hf: ∀b∈fp,zmt X pins H₃ b)(hlt: ∀b∈fp,b<s₃.heap.objs.size)
  (hn: ∀b∈fp,H' b=Option.none): ∀b∈fp,zmt (zbG X scope x s₃ H₃ fp pins) [] H' b:=fun b hb=>by
 have ok:=znn S I hf hlt
 refine⟨hn b hb,(ok.exf b hb).1,ok.exfs b hb,.inl hb,(ok.exf b hb).2,fun p hp=>?_⟩
 have hp:p∈X.pn++pins:=by simpa [zbG] using hp
 exact (hf b hb).2.2.2.2.2 p hp
structure CSt (X:Cx)(scope:Scope)(x:Str)(s₃:Shared)(H₃:Hp)(fp:List Addr)(pins:List (Addr×Obj))(σ:St)(tn:Nat->Heap->Prop)(H2:Hp)(W:Addr->Prop)(L:Addr)(test:D->Option Bool)(elt:D->Option SV)(ds out:List D)
  (n k:Nat) (y:Option V) (H':Hp) (ys:List V) (out1 zch:List D) (s':Shared):Prop where
 inv:Inv (zbG X scope x s₃ H₃ fp pins) [] (y::σ) H' s'
 htn:tn k s'.heap
 hfp: ∀b∈fp,H' b=Option.none
 hn:n=ds.length+1-k
 hk:k<=ds.length
 same:Same H2 H'
 lst:H' L=some (.lst ys)
 reps:Reps X.K (add W L) H' out1 ys
 hrest:zdG test elt (ds.drop k)=some zch
 hout:out=out1++zch
theorem ziQ{iter elt:Expr}{x:Str}{px pos pos2:Pos}{ifs:List Expr}{scope:Scope}{rng:Bool}{src:Es}{cond ce:E}{pins:List (Addr×Obj)}{s:Shared}{σ:St}{H:Hp}{W:Addr->Prop}{ρ:LW.Env}{rs:List SV}{ds out:List D}{use:Option (Value->Sem Unit)}{Qe:Value->Shared->Prop}
  (hcalm:X.calm=true) (S:CompSc X scope x) (hsrc:Src X fn (.Name x px) iter rng src)
  (hcond:zk1 X fn scope x ifs cond) (helt: ∀s₃ H₃ fp pins,IE (zbG X scope x s₃ H₃ fp pins) fn elt ce) (hfo: ∀y,foldedSetIterable iter X.env y=pure y) (I:Inv X pins σ H s) (hR:R X.K W ρ σ H)
  (e1:zcx fn src ρ=some rs) (e2:zaI rng rs=some ds) (hline:ds.length<=line) (e3:zdG (fun d=>evT fn cond (some (.val d)::ρ)) (fun d=>evE fn ce (some (.val d)::ρ)) ds=some out)
  (fin: ∀(s4:Shared) (fl:Flow) (m:Str->Option Value) (C L:Addr) (H':Hp),s4.heap.Ns C m->(∀h',Heap.SameBut C s4.heap h'->Inv X pins σ H' { s4 with heap:=h' })->(X.s₀.heap.objs.size<=C/\C≠X.env.locals/\(∀y c,X.env.cells.lookup y=some c->c≠C)/\(∀p∈X.pn++pins,p.1≠C)/\H' C=Option.none)->Same H H'->
   Res X.K W H H' (.obj true (.lst out)) (.ref L)->compPost (model X.prog X.w) X.A X.xe use Qe (.ref L) C (.ok fl) s4):
  wpAny (model X.prog X.w) X.A (comprehension (.ListComp elt [⟨.Name x px,iter,ifs,0⟩] scope pos) scope X.env pos2 (newList []) false (eval iter X.env) use) Qe X.xe s:=by
 have hclos:=zfI (scope:=scope) (env:=X.env) (S.cells I.ok)
 refine wpAny_comprehension_free (use:=use) rfl hfo hclos S.kind S.names ?_
 refine thn (hsrc.h pins s σ H (fun J H2=>Same H H2/\Ys X.K J W H2 ds) I ⟨W,ρ,rs,ds,hR,e1,e2,fun J H' s1 y _=>⟨s1,y⟩⟩) fun v s1 h1=>thn h1 fun itv s2 h2=>?_
 obtain⟨it,fp,tn,J,H2,rfl,I2,T,st2,f2,sm,hy⟩:=h2
 refine wpAny_newObj_type (zkf S fun h₁ hns₁ hk₁ hc₁=>?_)
 have I3:=I2.lnew (t':=s2.toks) (ys:=[]) (its:=[]) .nil (Nat.zero_le _)
 have hD:H2 s2.heap.objs.size=Option.none:=I2.fresh
 generalize hL:s2.heap.objs.size=L at hD
 generalize hs3:({ s2 with heap:=s2.heap.push { cls:=.type "list",data:=.seq ([]:List Value).toArray },toks:=s2.toks }:Shared)=s₃ at I3
 have hs3h:s₃.heap=s2.heap.push { cls:=.type "list",data:=.seq ([]:List Value).toArray }:=by rw[<-hs3]
 rw[hL] at I3
 generalize hH3:upd H2 L (.lst [])=H₃ at I3
 have blt: ∀b∈fp,b<s2.heap.objs.size:=fun b hb=>by
  obtain⟨o,e,_⟩:=T.obj _ _ st2 b hb
  exact Heap.lt_size e
 have hlt: ∀b∈fp,b<s₃.heap.objs.size:=fun b hb=>by rw[hs3h,Heap.size_push];exact Nat.lt_succ_of_lt (blt b hb)
 have hf: ∀b∈fp,zmt X pins H₃ b:=fun b hb=>by
  refine⟨?_,(f2 b hb).2⟩
  rw[<-hH3,za9 (by rw[<-hL];exact Nat.ne_of_lt (blt b hb))]
  exact (f2 b hb).1
 have keep1: ∀b o,s₃.heap.get? b=some o->h₁.get? b=some o:=fun b o e=>by
  rw[hs3h] at e
  exact hk₁ b o e
 have ns1:h₁.Ns s₃.heap.objs.size fun _=>Option.none:=by rw[hs3h];exact hns₁
 have Ic:=zps (tk:=s2.toks) S I3 hf hlt ns1 keep1 (by rw[hs3h];exact hc₁)
 have fpc:=fun {H':Hp} hn=>zrV (H':=H') S I3 hf hlt hn
 have win: ∀b,add W L b->W b\/H2 b=Option.none:=fun b w=>by
  rcases w with w|rfl
  ·exact .inl w
  ·exact .inr hD
 have hRL: ∀{H':Hp} {ys:List V},Same H2 H'->H' L=some (.lst ys)->R X.K (add W L) ρ σ H':=fun {H' ys} sm' e=>(hR.same sm).add sm' hD e
 have zrW:out.length<=ds.length:=zfJ e3
 have loop: ∀s':Shared,s'={ s₃ with heap:=h₁,toks:=s2.toks }->codeAny (model X.prog X.w) X.A (.compLoop (.ListComp elt [⟨.Name x px,iter,ifs,0⟩] scope pos) 0 (.ref it) (.ref L) (zbG X scope x s₃ H₃ fp pins).env)
   (compPost (model X.prog X.w) X.A X.xe use Qe (.ref L) s₃.heap.objs.size) s':=by
  rintro s' rfl
  refine zlT (fun n s'=>∃k y H' ys out1 zch,CSt X scope x s₃ H₃ fp pins σ tn H2 W L (fun d=>evT fn cond (some (.val d)::ρ)) (fun d=>evE fn ce (some (.val d)::ρ)) ds out n k y H' ys out1 zch s') ?_ (ds.length+1)
   ⟨0,Option.none,H₃,[],[],out,Ic,T.keep _ _ _ st2 (fun b hb o e=>keep1 b o (by rw[hs3h];exact Heap.get?_push_of_some _ e)),fun b hb=>(hf b hb).1,rfl,Nat.zero_le _,by rw[<-hH3];exact zaO hD _,by rw[<-hH3];exact zbe,.nil,e3,rfl⟩
  rintro n s' ⟨k,y,H',ys,out1,zch,c⟩
  obtain⟨hstop,hgo⟩:=hy (add W L) H' c.same win k
  by_cases hk:k<ds.length
  ·have hd:ds[k]? =some ds[k]:=by simp[hk]
   obtain⟨g1,g2⟩:=hgo _ hd
   have crest:=c.hrest
   rw[ziO hd] at crest
   simp only[zdG,jo1] at crest
   obtain⟨b,t1,t2⟩:=crest
   refine thn (T.item (zbG X scope x s₃ H₃ fp pins) rfl rfl rfl hcalm k [] s' (y::σ) H' _ c.inv (fpc c.hfp) c.htn g1) fun r s4 ⟨u,hr,h4⟩=>?_
   subst hr
   refine thn h4 fun _ s5 ⟨xv,H5,I5,r5,y5,st5,fr5⟩=>?_
   obtain⟨rfl,rv⟩:=g2 xv H5 y5
   have I5':=I5.pinned (fpc fr5) (T.obj _ _ st5)
   refine thn (zj1 (X:=zbG X scope x s₃ H₃ fp pins) (i:=0) S.nd rfl S.locX S.fnX _ s5 (y::σ) H5 xv u (fun σ' H'=>σ'=some xv::σ/\H'=H5) I5' r5 ⟨rfl,rfl⟩) fun _ s6 ⟨σ6,H6,I6,q6,q7⟩=>?_
   subst q6 q7
   have hRc:=(hRL c.same c.lst).cons rv
   refine thn (zpt (Q:=fun b' H7=>b'=b/\Same H6 H7) hcond I6 hRc t1 fun H7 s7=>⟨rfl,s7⟩) fun ok s7 ⟨H7,I7,q7,m7⟩=>?_
   subst q7
   have back: ∀{s':Shared} {H':Hp},Inv (zbG X scope x s₃ H₃ fp pins) ([]++ziu fp s5.heap) (some xv::σ) H' s'->tn (k+1) s'.heap/\∀b∈fp,H' b=Option.none:=fun {s' H'} J=>by
    refine⟨T.keep _ _ _ st5 fun b hb o e=>(J.pin (b,o) (List.mem_append_right _ (List.mem_append_right _ (zdd hb e)))).1,fun b hb=>?_⟩
    obtain⟨o,e,d⟩:=T.obj _ _ st5 b hb
    exact (J.pin (b,o) (List.mem_append_right _ (List.mem_append_right _ (zdd hb e)))).2.1
   cases ok with
   |false=>
    rw[if_neg Bool.false_ne_true]
    have bk:=back I7
    exact⟨_,by have:=c.hn;omega,k+1,some xv,H7,ys,out1,zch,I7.unpinned,bk.1,bk.2,rfl,hk,c.same.trans m7,m7 _ _ c.lst,c.reps.ext (.same m7),t2,c.hout⟩
   |true=>
    rw[if_pos rfl]
    simp only[jo1,jo2] at t2
    obtain⟨r8,t3,d8,t4,rest',t5,rfl⟩:=t2
    have hR7:=hRc.same m7
    refine thn ((helt s₃ H₃ fp pins).h _ s7 _ H7 (fun v H8=>Same H7 H8/\Rep X.K (add W L) H8 d8 v) I7 ⟨add W L,_,r8,hR7,t3,fun v8 H8 m8 res=>⟨m8,(res.frz hR7.wf).toD t4⟩⟩) fun u8 s8 ⟨v8,H8,I8,rl8,m8,rp8⟩=>?_
    have lst8:=m8 _ _ (m7 _ _ c.lst)
    have lenY:=c.reps.length
    have lenT:=congrArg List.length c.hout
    rw[List.length_append,List.length_cons] at lenT
    have le:=zhm
    refine thn (ziB (X:=zbG X scope x s₃ H₃ fp pins) _ s8 _ H8 (.ref L) [v8] (.ref L) [u8] (fun _ H9=>H9=upd H8 L (.lst (ys++[v8]))) I8 rfl (.cons rl8 .nil) ⟨L,ys,v8,rfl,rfl,lst8,by omega,rfl⟩) fun _ s9 ⟨_,H9,I9,_,q9⟩=>?_
    subst q9
    have bk:=back I9
    have ext:Ext (add W L) H8 (add W L) (upd H8 L (.lst (ys++[v8]))):=by
     refine⟨fun b o q n=>?_,fun b zs q=>?_,fun b o u q=>?_,fun b w=>.inl w⟩
     ·rw[za9 (fun z=>n (.inr z))];exact q
     ·rw[za9 (fun z=>by rw[z,lst8] at q;cases q)];exact q
     ·rw[za9 (fun z=>by rw[z,lst8] at q;cases q)];exact q
    have smL:Same H2 (upd H8 L (.lst (ys++[v8]))):=fun b o q=>by
     rw[za9 (fun z=>by rw[z,hD] at q;cases q)]
     exact m8 _ _ (m7 _ _ (c.same _ _ q))
    exact⟨_,by have:=c.hn;omega,k+1,some xv,_,ys++[v8],out1++[d8],rest',I9.unpinned,bk.1,bk.2,rfl,hk,smL,zbe,((c.reps.ext (.same (m7.trans m8))).ext ext).append (.cons (rp8.ext ext) .nil),t5,by rw[c.hout];simp⟩
  ·have ek:k=ds.length:=by have:=c.hk;omega
   refine thn (T.done (zbG X scope x s₃ H₃ fp pins) rfl rfl rfl hcalm k [] s' (y::σ) H' _ c.inv (fpc c.hfp) c.htn (hstop ek)) fun r s4 ⟨hr,I4⟩=>?_
   subst hr
   obtain⟨m,hn,_⟩:=I4.loc
   have er:=c.hrest
   rw[List.drop_of_length_le (by omega),zdG] at er
   cases er
   have eo:=c.hout
   rw[List.append_nil] at eo
   refine fin s4 _ m _ L H' hn (fun h' hs=>zno I3 hf I4 hs) ⟨I3.sz,(Nat.ne_of_lt I3.lt).symm,fun y cc hc=>?_,fun p hp=>?_,I4.free⟩ (sm.trans c.same) (by rw[eo];exact .new (sm.free hD) c.lst (.lst c.reps))
   ·obtain⟨v,o,ho,_⟩:=I3.cell y cc hc
    exact Nat.ne_of_lt (Heap.lt_size ho)
   ·exact Nat.ne_of_lt (Heap.lt_size (I3.pin p hp).1)
 have st0:tn 0 h₁:=T.keep _ _ _ st2 (fun b hb o e=>keep1 b o (by rw[hs3h];exact Heap.get?_push_of_some _ e))
 subst hs3 hL
 exact codeAny_compStart_list (loop _ rfl) (T.self X.A 0 _ _ _ st0 (loop _ rfl))
theorem zdx{iter elt:Expr}{x:Str}{px pos:Pos}{ifs:List Expr}{scope:Scope}{rng:Bool}{src:Es}{cond ce:E}(hcalm:X.calm=true)(S:CompSc X scope x)(hsrc:Src X fn (.Name x px) iter rng src)
  (hcond:zk1 X fn scope x ifs cond) (helt: ∀s₃ H₃ fp pins,IE (zbG X scope x s₃ H₃ fp pins) fn elt ce) (hfo: ∀y,foldedSetIterable iter X.env y=pure y:=by intro _;rfl):
  IE X fn (.ListComp elt [⟨.Name x px,iter,ifs,0⟩] scope pos) (.comp rng src cond ce):=by
 refine .mk ?_
 rintro pins s σ H Q I ⟨W,ρ,r,hR,he,q⟩
 simp only[zm1,jo1] at he
 obtain⟨rs,e1,ds,e2,e3⟩:=he
 split at e3
 case isFalse=>cases e3
 rename_i hline
 rw[jo2] at e3
 obtain⟨out,e3,rfl⟩:=e3
 rw[eval_ListComp]
 refine ziQ (use:=Option.none) hcalm S hsrc hcond helt hfo I hR e1 e2 hline e3 fun s4 fl m C L H' hn back _ sm res=>?_
 exact⟨m,hn,fun h' hs=>⟨.ref L,H',back h' hs,rfl,q _ H' sm res⟩⟩
theorem zqF(i:Nat){fa:Nat->List D->Option Ans}{fuel:Nat}{iter elt:Expr}{x y:Str}{px py pos spos:Pos}{ifs:List Expr}{scope:Scope}{rng:Bool}{src:Es}{cond ce:E}(hcalm:X.calm=true)(hN:X.N.Nodup)(hi:X.N[i]? =some y)(hy:X.env.scope.names.lookup y=some .local)(S:CompSc X scope x)(hsrc:Src X (prj fa) (.Name x px) iter rng src)
  (hcond:zk1 X (prj fa) scope x ifs cond) (helt: ∀s₃ H₃ fp pins,IE (zbG X scope x s₃ H₃ fp pins) (prj fa) elt ce)
  (hsw:swapsWith (.ListComp elt [⟨.Name x px,iter,ifs,0⟩] scope pos) (some (.Name y py)) spos.line X.env=pure true:=by rfl) (hfo: ∀y,foldedSetIterable iter X.env y=pure y:=by intro _;rfl):
  IS X (exS fa fuel (.asg i (.comp rng src cond ce))) (.Assign [.Name y py] (.ListComp elt [⟨.Name x px,iter,ifs,0⟩] scope pos) spos):=by
 refine .mk ?_
 rintro pins s σ H D0 I ⟨W,ρ,z,hR,hz,q⟩
 simp only[zqx,jo1] at hz
 obtain⟨r,he,hz⟩:=hz
 split at hz
 case isTrue=>cases hz
 rename_i hl
 cases hz
 simp only[Bool.not_eq_true,Bool.or_eq_false_iff,Bool.not_eq_false'] at hl
 simp only[zm1,jo1] at he
 obtain⟨rs,e1,ds,e2,e3⟩:=he
 split at e3
 case isFalse=>cases e3
 rename_i hline
 rw[jo2] at e3
 obtain⟨out,e3,rfl⟩:=e3
 rw[exec_Assign_Name_used _ _ _ _ hsw]
 refine wpAny_bind (wpAny_standAt (wpAny_bind ?_))
 show wpAny _ X.A (do let _ <-comprehension (.ListComp elt [⟨.Name x px,iter,ifs,0⟩] scope pos) scope X.env _ (newList []) false (eval iter X.env) (some (assign (.Name y py) X.env))) _ _ s
 refine wpAny_bind (wpAny_mono (ziQ (use:=some (assign (.Name y py) X.env)) (Qe:=fun _ s'=>SP X pins D0 .next s') hcalm S hsrc hcond helt hfo I hR e1 e2 hline e3 fun s4 fl m C L H' hn back cf sm res=>?_) (fun _ s' hq=>wpAny_pure (wpAny_pure hq)) fun _ _ e=>e)
 have I4:Inv X pins σ H' s4:=back s4.heap ⟨rfl,fun _ _=>rfl⟩
 refine wpAny_assign_Name (zis I4 hN hi (.inl hy) (v:=.ref L) rfl (fun s5 I5 ⟨a,hs5,ha⟩=>?_) (.inr hy))
 have haC:a≠C:=by
  rcases ha with rfl|ha
  ·exact fun z=>cf.2.1 z.symm
  ·exact cf.2.2.1 _ _ ha
 have hnC:s5.heap.Ns C m:=by
  obtain⟨o,es,ep,ho,hrest⟩:=hn
  exact⟨o,es,ep,(hs5.2 C (Ne.symm haC)).trans ho,hrest⟩
 refine⟨m,hnC,fun h' hs=>?_⟩
 have I6:Inv X pins (σ.set i (some (.ref L))) H' { s5 with heap:=h' }:=by
  refine I5.call' (s':={ s5 with heap:=h' }) (ch:=[C]) rfl ⟨fun b o e n hb hx=>?_,fun b o e n hb hx=>?_,fun b o e n hx=>n,fun b o e hx=>?_,fun _ _ q=>q,fun _ _ _ q=>q,fun _ ps q=>⟨#[],by simpa using q⟩⟩ ?_ I5.bare fun b hb=>?_
  ·exact (hs.2 b (by simpa using hx)).trans e
  ·exact⟨o.slots,(hs.2 b (by simpa using hx)).trans e⟩
  ·exact⟨o,(hs.2 b (by simpa using hx)).trans e⟩
  ·intro b o e
   refine (I5.hok b o e).stay (fun c v hc q=>(hs.2 c ?_).trans q) (fun _ q=>q) fun _ _ q=>q
   intro z
   rcases hc with w|w
   ·rw[<-w,z,cf.2.2.2.2] at e;cases e
   ·rw[z,cf.2.2.2.2] at w;cases w
  ·have e:b=C:=by simpa using hb
   subst e
   exact⟨.inr cf.1,cf.2.1,cf.2.2.1,cf.2.2.2.1⟩
 cases res with
 |new h e r=>exact⟨_,H',I6,q _ _ H' (zeU hR sm h e r (zdJ hl.2))⟩
end
end L2.LW
set_option maxHeartbeats 4000000
namespace L2.LW
open PySem PySem.Spec PyProof.Rows
noncomputable def tyN:Ty->String
 | .bool=>"bool"| .int=>"int"| .str=>"str"| .list=>"list"| .tuple=>"tuple"
noncomputable def dTy:D->String
 | .int _=>"int"| .bl _=>"bool"| .non=>"NoneType"| .str _=>"str"| .tup _=>"tuple"| .lst _=>"list"| .dct _ _ _=>"dict"
theorem zt8(K:PySem.W.Frag)(d:D)(t:Ty):PySem.W.kitOne K (.type (dTy d)) (.type (tyN t))=some (zfh t d):=by
 cases d<;>cases t<;>rfl
section
variable {X:Cx} {fn:Nat->List D->Option SV}
theorem zpu{pins:List (Addr×Obj)}{σ:St}{H:Hp}{s:Shared}{W:Addr->Prop}{A:Around}{E Q:Value->Shared->Prop}{d:D}{x:V}{u:Value}{t:Ty}(I:Inv X pins σ H s)(h:Sees X.K W H d x)(r:RelV x u)
  (q: ∀tk,Q (.bool (zfh t d)) { s with toks:=tk }):wpAny (model X.prog X.w) A (call (.builtin "isinstance") [u,.type (tyN t)]) Q E s:=by
 have e:=zt8 X.K d t
 cases d with
 |int i=>cases h.int;obtain⟨tk,rfl⟩:=r;exact PySem.W.kia_one PySem.W.kitx_int I.kIn True.intro e (fun z=>nomatch z) q
 |bl b=>cases h.bl;cases r;exact PySem.W.kia_one PySem.W.kitx_bool I.kIn True.intro e (fun z=>nomatch z) q
 |non=>cases h.non;cases r;exact PySem.W.kia_one PySem.W.kitx_none I.kIn True.intro e (fun z=>nomatch z) q
 |str y=>cases h.str;obtain⟨tk,rfl⟩:=r;exact PySem.W.kia_one PySem.W.kitx_str I.kIn True.intro e (fun z=>nomatch z) q
 |tup l=>
  obtain⟨a,xs,rfl,hq,_⟩:=h.tup
  cases r
  obtain⟨its,rv,⟨o,ho,hc,n,hd⟩,hz⟩:=I.tuple hq
  exact PySem.W.kia_one PySem.W.kitx_tuple I.kIn ⟨o,ho,hc⟩ e (fun z=>nomatch z) q
 |lst l=>
  obtain⟨a,xs,rfl,hq,_⟩:=h.lst
  cases r
  obtain⟨its,rv,⟨o,n,ho,hc,_,hd⟩,hz⟩:=I.list hq
  exact PySem.W.kia_one PySem.W.kitx_list I.kIn ⟨o,ho,hc⟩ e (fun z=>nomatch z) q
 |dct b ks vs=>
  cases b with
  |false=>
   obtain⟨a,ns,ys,rfl,_,hH,_⟩:=h.dK
   cases r
   obtain⟨_,_,vs,_,ob,_,_,h1,h2,_⟩:=zlP I.hok (.inl hH)
   exact PySem.W.kia_one PySem.W.kitx_dict I.kIn ⟨ob,h1,h2.1⟩ e (fun z=>nomatch z) q
  |true=>
   obtain⟨a,ns,ys,rfl,_,hH,_⟩:=h.dT
   cases r
   obtain⟨_,_,xs,_,ob,_,_,h1,h2,_⟩:=zlQ I.hok (.inl hH)
   exact PySem.W.kia_one PySem.W.kitx_dict I.kIn ⟨ob,h1,h2.1⟩ e (fun z=>nomatch z) q
theorem zrX(t:Ty):CallR X (.builtin "isinstance") (fun xs H Q=>∃x,xs=[x,.ty (tyN t)]/\VR X.K (zai (.inst t)) [x] H Q):=by
 rintro pins s σ H xs us Q I rv ⟨x,rfl,W,ds,r,wf,hs,hf,q⟩
 obtain⟨d,rfl,h1⟩:=pr1 hs
 replace hf:ztI t [d]=some r:=hf
 cases hf
 obtain⟨u,w',rfl,r1,r2⟩:=zrm rv
 cases r2
 exact zpu I h1 r1 fun tk=>⟨.bl _,H,I.tok tk,rfl,q _ H (.refl H) (.val (.bl _))⟩
theorem zgV{a:Expr}{ca:E}{t:Ty}{y:Str}{p p2 pos:Pos}(hg:Gl X "isinstance")(hm:X.mg "isinstance"=Option.none)(hg2:Gl X y)(hm2:X.mg y=Option.none)(hv:bootBuiltins y=some (.type (tyN t)))(ha:IE X fn a ca)
  (hn:y≠"__name__":=by decide) (hdb:(y==("__debug__":Str))=false:=by decide)
  (h1:starEach [a,.Name y p2] X.env=(false,eval a X.env)::starEach [.Name y p2] X.env:=by rfl) (h2:starEach [.Name y p2] X.env=(false,eval (.Name y p2) X.env)::starEach [] X.env:=by rfl)
  (hpl:(backTo pos (starEach [.Name y p2] X.env)).any (·.1)=false:=by rfl):
  IE X fn (.Call (.Name "isinstance" p) [a,.Name y p2] [] pos) (.prim (.inst t) (.cons ca .nil)):=
 .mk <| (zhg (zrX t) hg hm PyProof.Rows.boot_isinstance (zct ha.v (zct (zre hg2 hm2 hv (v:=.ty (tyN t)) rfl hn hdb) zgM h2) h1) (by decide) (by decide) h1 hpl).imp fun σ H Q zz3=>by
  obtain⟨W,ρ,r,hR,he,q⟩:=zz3
  simp only[zcT,zcF,zbX,jo1,jo2] at he
  obtain⟨rs,⟨r1,e1,rs',e3,rfl⟩,e4⟩:=he
  cases e3
  exact⟨W,ρ,r1,hR,e1,fun v1 H1 s1 f1=>⟨v1,rfl,zj9 hR s1 (.cons f1 .nil) e4 q⟩⟩
theorem zgW(l:List Int):(zhj l).Perm l:=List.mergeSort_perm _ _
theorem zgv(l:List Int):(zhj l).Pairwise (· <= ·):=by
 have h:=List.pairwise_mergeSort (le:=fun (a b:Int)=>decide (a<=b)) (fun a b c h1 h2=>by simp at*;omega) (fun a b=>by simp;omega) l
 exact h.imp fun h=>by simpa using h
theorem zlU{ds:List D}{ns:List Int}{pins:List (Addr×Obj)}{s:Shared}{σ:St}{H:Hp}{xs:List V}{us:List Value}{Q:VK}(I:Inv X pins σ H s)(rv:Vals xs us)
  {W:Addr->Prop} {l:List D} (hs:Paired (Sees X.K W H) [.lst l] xs) (e1:ints? l=some ns) (h64:ns.length<64) (q: ∀v H',Same H H'->Res X.K W H H' (.obj true (.lst ((zhj ns).map .int))) v->Q v H'):
  wpAny (model X.prog X.w) X.A (call (.builtin "sorted") us) (EP X pins σ Q) X.xe s:=by
 cases hs with
 |cons h1 t=>
  cases t
  obtain⟨p,ys,rfl,hp,rp⟩:=h1.lst
  have ey:=rp.ofInts e1
  subst ey
  obtain⟨u,rfl,ru⟩:=zhf rv
  cases ru
  obtain⟨its,rv',pl,hz⟩:=I.list hp
  have hi:=zbI rv'
  have hlen:=rv'.length
  rw[List.length_map] at hlen
  refine sorted_ints pl.isList hi (by omega) fun out ns' a1 a2 a3=>?_
  have en:ns'=zhj ns:=PySem.W.ksm_same (a2.trans (zgW ns).symm) a3 (zgv ns)
  subst en
  obtain⟨e,he⟩:=sortedAll_at s.heap its out
  have hl2:=(zgW ns).length_eq
  have fr:H (s.heap.objs.size+1)=Option.none:=I.hok.fresh (Nat.le_succ _)
  refine⟨.ref (s.heap.objs.size+1),upd H (s.heap.objs.size+1) (.lst ((zhj ns).map V.int)),I.laid (t':=s.toks) (fun _ _=>sortedAll_old) (Nat.le_succ _) ⟨?_,out.toList,e,zfC a1,?_⟩,rfl,q _ _ (zaO fr _) (zcV fr (.ints _))⟩
  ·rw[List.length_map];exact Nat.le_of_lt (zcS (by omega))
  ·simpa [seqObj] using he
theorem zgX{K:PySem.W.Frag}{W:Addr->Prop}{H:Hp}: ∀{ds:List D} {xs:List V} {bs:List Bool},Reps K W H ds xs->bools? ds=some bs->xs=bs.map V.bl
 |_,_,bs,.nil,e=>by simp[bools?] at e;subst e;rfl
 |_,_,bs,.cons h t,e=>by
  cases h with
  |bl i=>
   simp only[bools?,jo2] at e
   obtain⟨ms,e1,rfl⟩:=e
   rw[zgX t e1];rfl
  |_=>simp[bools?] at e
theorem zgY: ∀{bs:List Bool} {us:List Value},Vals (bs.map V.bl) us->us=bs.map Value.bool
 |[],us,r=>by cases r;rfl
 |b::bs,us,r=>by
  cases r with
  |cons h t=>cases h;rw[zgY t];rfl
theorem znp(bs:List Bool):((List.range bs.length).all fun i=>bs.getD i true)=bs.all id:=by
 induction bs with
 |nil=>rfl
 |cons b r ih=>
  rw[List.length_cons,List.range_succ_eq_map,List.all_cons,List.all_map,List.all_cons]
  simp only[Function.comp_def,List.getD_cons_succ,List.getD_cons_zero]
  rw[ih];rfl
theorem zqG(hc:X.calm=true):CallR X (.builtin "all") (VR X.K (zai .all)):=by
 rintro pins s σ H xs us Q I rv ⟨W,ds,r,wf,hs,hf,q⟩
 replace hf:zwo ds=some r:=hf
 unfold zwo at hf
 split at hf
 ·rename_i l
  rw[jo1] at hf
  obtain⟨bs,e1,hf⟩:=hf
  cases hf
  cases hs with
  |cons h1 t=>
   cases t
   obtain⟨p,ys,rfl,hp,rp⟩:=h1.lst
   have ey:=zgX rp e1
   subst ey
   obtain⟨u,rfl,ru⟩:=zhf rv
   cases ru
   obtain⟨its,rv',pl,hz⟩:=I.list hp
   have ei:=zgY rv'
   subst ei
   obtain⟨o,n,ho,hcl,hdi,hda⟩:=id pl
   have hne:p≠s.heap.objs.size:=Nat.ne_of_lt (Heap.lt_size ho)
   refine call_all_walk (wpAny_pyIter_list pl.isList ?_)
   refine⟨s.heap.objs.size,_,_,_,_,_,fun i=>bs.getD i true,rfl,Walks.list (A:=X.A.in1) (I.ok.hd hc) s.heap.objs.size p hne (bs.map Value.bool).toArray,⟨⟨_,Heap.get?_push_size _ rfl,rfl,rfl⟩,⟨o,Heap.get?_push_of_some _ ho,hcl,n,hda⟩⟩,?_,fun h' tk hk=>?_⟩
   ·intro i v s' Q' E' hv hQ
    have hv:(bs.map Value.bool).toArray[i]? =some v:=hv
    rw[List.getElem?_toArray,List.getElem?_map,jo2] at hv
    obtain⟨b,e2,rfl⟩:=hv
    have e3:bs.getD i true=b:=by rw[List.getD_eq_getElem?_getD,e2];rfl
    have hQ:Q' (bs.getD i true) s':=hQ
    rw[e3] at hQ
    exact wpAny_truthy_bool hQ
   ·rw[List.size_toArray,List.length_map,znp]
    refine⟨.bl _,H,I.kept (t':=tk) (fun b o' e=>?_),rfl,q _ H (.refl H) (.val (.bl _))⟩
    exact hk b o' (by simpa using Nat.ne_of_lt (Heap.lt_size e)) (Heap.get?_push_of_some _ e)
 ·cases hf
theorem zpv(xs:List V)(k:Int)(hk:0<=k):zsL xs Option.none (some k)=xs.take k.toNat:=by
 obtain⟨n,rfl⟩:=Int.eq_ofNat_of_zero_le hk
 unfold zsL
 rw[HT.sIx_none,HT.sIx_nat,List.drop_zero,Nat.sub_zero,Int.toNat_natCast]
 rcases Nat.le_total n xs.length with h|h
 ·rw[Nat.min_eq_left h]
 ·rw[Nat.min_eq_right h,List.take_of_length_le (Nat.le_refl _),List.take_of_length_le h]
theorem zrY{a b:Expr}{ca cb:E}{p pos:Pos}(ha:IE X fn a ca)(hb:IE X fn b cb):IE X fn (.Subscript a (.Slice Option.none (some b) Option.none p) pos) (.prim .cutTo (.cons ca (.cons cb .nil))):=
 .mk <| (zo9 zrs ha.v zro (zrp hb.v)).imp fun σ H Q zz3=>by
  obtain⟨W,ρ,r,hR,he,q⟩:=zz3
  simp only[zcT,zcF,zbX,jo1,jo2] at he
  obtain⟨rs,⟨r1,e1,rs',⟨r2,e2,rs'',e3,rfl⟩,rfl⟩,e4⟩:=he
  cases e3
  refine⟨W,ρ,r1,hR,e1,fun v1 H1 s1 f1=>⟨W,ρ,r2,hR.same s1,e2,fun v2 H2 s2 f2=>?_⟩⟩
  replace e4:zkP [zbH r1,zbH r2]=some r:=e4
  unfold zkP at e4
  split at e4
  ·rename_i l k z
   have h1:=(f1.same s2).sees
   have h2:=f2.sees
   injection z with z1 z2
   injection z2 with z2 _
   rw[z1] at h1
   rw[z2] at h2
   split at e4
   ·rename_i hk
    cases e4
    obtain⟨p,xs,rfl,hp,rp⟩:=h1.lst
    cases h2.int
    refine⟨k,rfl,p,xs,rfl,hp,fun p' hp'=>?_⟩
    rw[zpv xs k hk]
    have s12:=s1.trans s2
    exact q _ _ (s12.trans (zaO hp' _)) ((zcV hp' (rp.take _)).back s12)
   ·cases e4
  ·cases e4
theorem zaW{scope:Scope}{env:PySem.Env}{y:Str}(h:scope.names.lookup y=some .free):Vis (relabel scope env) y:=by
 unfold Vis relabel
 have key: ∀(names:List (Str×NameKind)),names.lookup y=some .free->
   (names.map fun (z:Str×NameKind)=>match z with|(n,k)=>if (k==NameKind.free&&env.scope.kind== .function&&env.kindOf n==some .cell)=true then (n,NameKind.cell) else (n,k)).lookup y=some .cell\/
   (names.map fun (z:Str×NameKind)=>match z with|(n,k)=>if (k==NameKind.free&&env.scope.kind== .function&&env.kindOf n==some .cell)=true then (n,NameKind.cell) else (n,k)).lookup y=some .free:=by
  intro names
  induction names with
  |nil=>intro h;cases h
  |cons z r ih=>
   obtain⟨n,j⟩:=z
   intro h
   rw[List.lookup_cons] at h
   rw[List.map_cons,List.lookup_cons]
   by_cases hc:(j==NameKind.free&&env.scope.kind== .function&&env.kindOf n==some .cell)=true
   ·simp only[hc,if_true]
    cases e:y==n with
    |true=>exact .inl rfl
    |false=>rw[e] at h;exact ih h
   ·simp only[hc,Bool.false_eq_true,if_false]
    cases e:y==n with
    |true=>rw[e] at h;exact .inr h
    |false=>rw[e] at h;exact ih h
 exact .inr (key scope.names h)
theorem zaM{scope:Scope}{env:PySem.Env}{y:Str}(h:scope.names.lookup y=some .local):Vis (relabel scope env) y:=.inl (lookup_relabel_local h)
theorem zfK{scope:Scope}{env:PySem.Env}{y:Str}(h:scope.names.lookup y=some .globalImplicit):(relabel scope env).names.lookup y=some .globalImplicit:=by
 unfold relabel
 have key: ∀(names:List (Str×NameKind)),names.lookup y=some .globalImplicit->
   (names.map fun (z:Str×NameKind)=>match z with|(n,k)=>if (k==NameKind.free&&env.scope.kind== .function&&env.kindOf n==some .cell)=true then (n,NameKind.cell) else (n,k)).lookup y=some .globalImplicit:=by
  intro names
  induction names with
  |nil=>intro h;cases h
  |cons z r ih=>
   obtain⟨n,j⟩:=z
   intro h
   rw[List.lookup_cons] at h
   rw[List.map_cons,List.lookup_cons]
   by_cases hc:(j==NameKind.free&&env.scope.kind== .function&&env.kindOf n==some .cell)=true
   ·simp only[hc,if_true]
    cases e:y==n with
    |true=>
     rw[e] at h
     have h:j= .globalImplicit:=Option.some.inj h
     rw[h] at hc
     simp at hc
    |false=>rw[e] at h;exact ih h
   ·simp only[hc,Bool.false_eq_true,if_false]
    cases e:y==n with
    |true=>rw[e] at h;exact h
    |false=>rw[e] at h;exact ih h
 exact key scope.names h
noncomputable def znq(sc:Scope)(N:List Str)(scope:Scope)(x:Str):Bool:=
 decide (scope.kind= .function)&&(decide (scope.names.lookup x=some .local)||decide (scope.names.lookup x=some .cell))&&scope.names.all (fun y=> !decide (y.2= .local)||decide (scope.names.lookup y.1=some .local))&&
 decide (scope.names.filter (fun y=>y.2== .cell)=if scope.names.lookup x=some .cell then [(x,.cell)] else [])&&
 scope.names.all (fun y=> !decide (y.2= .free)||(decide (sc.names.lookup y.1=some .cell)||decide (sc.names.lookup y.1=some .free)))&&N.all (fun y=> !decide (scope.names.lookup y=some .local)||decide (y=x))&&
 decide (scope.names.lookup ("":Str)=Option.none)&&decide ((x::zqE x N).Nodup)
theorem zcN{scope sc:Scope}{N:List Str}{x:Str}(hs:X.env.scope=sc)(hN:X.N=N)(h:znq sc N scope x=true):CompSc X scope x:=by
 subst hs hN
 simp only[znq,Bool.and_eq_true,decide_eq_true_eq,List.all_eq_true,Bool.or_eq_true,Bool.not_eq_true',decide_eq_false_iff_not] at h
 obtain⟨⟨⟨⟨⟨⟨⟨h1,h2⟩,h3⟩,h4⟩,h5⟩,h6⟩,h7⟩,h8⟩:=h
 exact⟨h1,h2,fun y hy e=>(h3 y hy).resolve_left fun z=>z e,h4,fun y hy e=>(h5 y hy).resolve_left fun z=>z e,fun y hy e=>(h6 y hy).resolve_left fun z=>z e,h7,h8⟩
end
end L2.LW
set_option maxHeartbeats 4000000
namespace L2.LW
open PySem PySem.Spec PyProof.Rows
section
variable {Pg:Program} {w:World} {K:PySem.W.Frag} {mg:Str->Option Value} {base:Heap} {f:Addr} {fd:FuncData} {ps:List Str} {P:Nat->Option Fn} {fuel i n k:Nat}
theorem zk2{io:List Nat}(h: ∀ds,zaq P fuel n i ds=Option.none):FnOk Pg w K mg base CX0 k f fd ps (spA K (zaq P fuel n) i io):=by
 have no: ∀vs H Q E,¬spA K (zaq P fuel n) i io vs H Q E:=fun vs H Q E zz4=>by
  obtain⟨W,ds,r,outs,_,_,e,_⟩:=zz4
  rw[h ds] at e;cases e
 exact⟨fun vs H Q E z=>absurd z (no vs H Q E),fun A outer s H args us vs Q E _ _ _ _ z=>absurd z (no vs H Q E)⟩
theorem zrZ{io:List Nat}:FnOk Pg w K mg base CX0 k f fd ps (spA K (zaq P fuel 0) i io):=zk2 fun _=>rfl
theorem za8{io:List Nat}(h:P i=Option.none):FnOk Pg w K mg base CX0 k f fd ps (spA K (zaq P fuel (n+1)) i io):=zk2 fun ds=>by rw[zaq,h];rfl
theorem zt9{H:Hp}{a:Addr}{ns:List Int}{E:XK}(h:za7 P fuel n i [.lst (ns.map D.int)]=some (.val (.bl true)))(hS:SqL K H a (ns.map V.int)):spA K (zaq P fuel n) i [] [.ref a] H (fun v _=>v= .bl true) E:=by
 refine⟨fun _=>False,[.lst (ns.map D.int)],.val (.bl true),[],fun _ z=>z.elim,(Reps.cons (.lst ?_ (.ints ns)) .nil).get',zkU h,fun v H' _ _ r=>?_⟩
 ·rcases hS with hS|hS
  ·exact .inl ⟨fun z=>z,hS⟩
  ·exact .inr hS
 ·cases r with
  |val r=>cases r;rfl
end
end L2.LW
set_option maxHeartbeats 4000000
namespace L2.LW
open PySem PySem.Spec PyProof.Rows
section
variable {X:Cx} {fn:Nat->List D->Option SV} {fa:Nat->List D->Option Ans} {fuel:Nat} {a b c e:Expr} {ca cb cc ce:E} {es:List Expr} {cs:Es} {pos p:Pos} {x:Str} {st:Stmt} {sts:List Stmt} {s:S} {ss s1 s2:Ss}
theorem zua(t:Bool):IE X fn (.Dict [] [] pos) (.dnew t):=by
 cases t with
 |false=>
  refine .mk (zkM.imp fun σ H Q ⟨W,ρ,r,hR,he,q⟩=>?_)
  simp only[zm0] at he;cases he
  exact fun p hp=>q _ _ (zaO hp _) (.new hp zbe (.dK (ns:=[]) (ys:=[]) rfl .nil))
 |true=>
  refine .mk (zkN.imp fun σ H Q ⟨W,ρ,r,hR,he,q⟩=>?_)
  simp only[zm0] at he;cases he
  exact fun p hp=>q _ _ (zaO hp _) (.new hp zbe (.dT (ns:=[]) (ys:=[]) rfl .nil))
theorem znr(i:Int)(v:V): ∀{ns:List Int} {ys:List V},ns.length=ys.length->(ziH ns ys).map (fun kv=>if kv.1=Sum.inl i then (kv.1,v) else kv)=ziH ns (List.zipWith (fun n y=>if n=i then v else y) ns ys)
 |[],[],_=>rfl
 |n::ns,y::ys,h=>by
  have ih:=znr i v (ns:=ns) (ys:=ys) (by simpa using h)
  show (if (Sum.inl n:Key)=Sum.inl i then ((Sum.inl n:Key),v) else (Sum.inl n,y))::(ziH ns ys).map _=(Sum.inl n,if n=i then v else y)::ziH ns _
  rw[ih]
  by_cases e:n=i<;>simp[e]
theorem zns(i:List Int)(v:V): ∀{ns:List (List Int)} {ys:List V},ns.length=ys.length->(ziI ns ys).map (fun kv=>if kv.1=i.map Sum.inl then (kv.1,v) else kv)=ziI ns (List.zipWith (fun n y=>if n=i then v else y) ns ys)
 |[],[],_=>rfl
 |n::ns,y::ys,h=>by
  have ih:=zns i v (ns:=ns) (ys:=ys) (by simpa using h)
  show (if (n.map Sum.inl:List Key)=i.map Sum.inl then ((n.map Sum.inl:List Key),v) else (n.map Sum.inl,y))::(ziI ns ys).map _=(n.map Sum.inl,if n=i then v else y)::ziI ns _
  rw[ih]
  by_cases e:n=i
  ·simp[e]
  ·have: ¬((n.map Sum.inl:List Key)=i.map Sum.inl):=fun z=>e (zkR z)
   simp[e,this]
theorem ziR{K:PySem.W.Frag}{W:Addr->Prop}{H:Hp}{d:D}{v:V}(rv:Rep K W H d v)(i:Int): ∀{ns:List Int} {vs:List D} {ys:List V},Reps K W H vs ys->Reps K W H (List.zipWith (fun k' v'=>if eqD k' (.int i) then d else v') (ns.map D.int) vs) (List.zipWith (fun n y=>if n=i then v else y) ns ys)
 |[],_,_,_=>by simp;exact .nil
 |n::ns,_,_,.nil=>by simp;exact .nil
 |n::ns,_,_,.cons h t=>by
  have ih:=ziR rv i (ns:=ns) t
  simp only[List.map_cons,List.zipWith_cons_cons]
  refine .cons ?_ ih
  by_cases e:n=i
  ·simp[e,eqD];exact rv
  ·simp[e,eqD];exact h
theorem ziS{K:PySem.W.Frag}{W:Addr->Prop}{H:Hp}{d:D}{v:V}(rv:Rep K W H d v)(i:List Int): ∀{ns:List (List Int)} {vs:List D} {ys:List V},Reps K W H vs ys->Reps K W H (List.zipWith (fun k' v'=>if eqD k' (kT i) then d else v') (ns.map kT) vs) (List.zipWith (fun n y=>if n=i then v else y) ns ys)
 |[],_,_,_=>by simp;exact .nil
 |n::ns,_,_,.nil=>by simp;exact .nil
 |n::ns,_,_,.cons h t=>by
  have ih:=ziS rv i (ns:=ns) t
  simp only[List.map_cons,List.zipWith_cons_cons]
  refine .cons ?_ ih
  have:eqD (kT n) (kT i)=decide (n=i):=by simp[kT,eqD,zd1]
  rw[this]
  by_cases e:n=i
  ·simp[e];exact rv
  ·simp[e];exact h
theorem zub{K:PySem.W.Frag}{W:Addr->Prop}{H:Hp}{ns:List Int}{ys:List V}{vs:List D}{d:D}{v:V}(h:ns.length=ys.length)(r:Reps K W H vs ys)(i:Int)(rv:Rep K W H d v):
  ORep K W H (zkO false (ns.map D.int) vs (.int i) d) (.dK (zgO (ziH ns ys) (.inl i) v)):=by
 unfold zgO zkO
 rw[zfo,zj7 h]
 split
 ·rw[znr i v h]
  exact .dK (by simp[h]) (ziR rv i r)
 ·have e:ziH ns ys++[(Sum.inl i,v)]=ziH (ns++[i]) (ys++[v]):=by
   unfold ziH
   rw[List.map_append,List.zip_append (by simpa using h)]
   rfl
  rw[e]
  have:=ORep.dK (K:=K) (W:=W) (H:=H) (ns:=ns++[i]) (ys:=ys++[v]) (by simp[h]) (r.append (.cons rv .nil))
  rw[List.map_append] at this
  exact this
theorem zuc{K:PySem.W.Frag}{W:Addr->Prop}{H:Hp}{ns:List (List Int)}{ys:List V}{vs:List D}{d:D}{v:V}(h:ns.length=ys.length)(r:Reps K W H vs ys)(i:List Int)(rv:Rep K W H d v):
  ORep K W H (zkO true (ns.map kT) vs (kT i) d) (.dT (zgO (ziI ns ys) (i.map Sum.inl) v)):=by
 unfold zgO zkO
 rw[zfo,zj8 h]
 split
 ·rw[zns i v h]
  exact .dT (by simp[h]) (ziS rv i r)
 ·have e:ziI ns ys++[(i.map Sum.inl,v)]=ziI (ns++[i]) (ys++[v]):=by
   unfold ziI
   rw[List.map_append,List.zip_append (by simpa using h)]
   rfl
  rw[e]
  have:=ORep.dT (K:=K) (W:=W) (H:=H) (ns:=ns++[i]) (ys:=ys++[v]) (by simp[h]) (r.append (.cons rv .nil))
  rw[List.map_append] at this
  exact this
theorem zpw{ns:List Int}{ys:List V}(h:ns.length=ys.length):(ziH ns ys).length=ns.length:=by simp[ziH,h]
theorem zpx{ns:List (List Int)}{ys:List V}(h:ns.length=ys.length):(ziI ns ys).length=ns.length:=by simp[ziI,h]
theorem znt(i:Nat){pos':Pos}(hu:X.A.units+64<cLine)(hN:X.N[i]? =some x)(hv:Vis X.env.scope x)(ha:IE X (prj fa) a ca)(hb:IE X (prj fa) b cb)(hd:(x==("__debug__":Str))=false)(hcd:(x==("__classdict__":Str))=false)
  (hs:swapsWith b (some (.Subscript (.Name x p) a pos')) pos.line X.env=pure false:=by rfl):IS X (exS fa fuel (.dset i ca cb)) (.Assign [.Subscript (.Name x p) a pos'] b pos):=
 .mk <| (zru (by omega) (zfz hN hv hd hcd) ha.v hb.v hs).imp fun D0 σ H zz3=>by
  obtain⟨W,ρ,y,hR,hy,q⟩:=zz3
  simp only[zm3] at hy
  split at hy
  ·rename_i x h
   split at hy
   ·rename_i t ks vs hc
    simp only[jo1] at hy
    obtain⟨r,e1,d,e2,r',e3,d',e4,e5⟩:=hy
    split at e5
    ·rename_i hk
     cases e5
     rw[Bool.and_eq_true,decide_eq_true_iff] at hk
     refine⟨W,ρ,r,hR,e1,fun v H1 s1 f1=>?_⟩
     have hR1:=hR.same s1
     obtain⟨a,o,h1,h2,h3,h4⟩:=hR1.own i _ _ h hc
     refine⟨_,h1,W,ρ,r',hR1,e3,fun v2 H2 s2 f2=>?_⟩
     have rv:=(f1.same s2).toD e2
     have rk:=f2.toD e4
     have le:=zhm
     cases h4 with
     |dK l rp=>
      rename_i ns ys
      cases d' with
      |int n=>
       cases rk
       refine⟨a,_,rfl,DPut.k (k:=.inl n) (s2 _ _ h3) (by rw[zpw l];simp at hk;omega),q W σ _ (zhy hR h hc h1 (s1.trans s2) (s2 _ _ h3) ⟨fun _ z=>(nomatch z),fun _ _ z=>(nomatch z)⟩ (zub l (rp.ext (.same s2)) n rv))⟩
      |_=>simp[zbW] at hk
     |dT l rp=>
      rename_i ns ys
      cases d' with
      |tup kl=>
       obtain⟨ms,hms⟩: ∃ms,ints? kl=some ms:=by have:=hk.1;simp only[zbW,Option.isSome_iff_exists] at this;exact this
       cases rk with
       |tup hb rpb=>
       have z1:=rpb.ofInts hms
       have z2:=zeC hms
       subst z1 z2
       refine⟨a,_,rfl,DPut.t (k:=ms.map Sum.inl) (s2 _ _ h3) (by rw[hb,zhn]) (by rw[zpx l];simp at hk;omega),q W σ _ (zhy hR h hc h1 (s1.trans s2) (s2 _ _ h3) ⟨fun _ z=>(nomatch z),fun _ _ z=>(nomatch z)⟩ (zuc l (rp.ext (.same s2)) ms rv))⟩
      |_=>simp[zbW] at hk
    ·cases e5
   ·cases hy
  ·cases hy
end
end L2.LW
set_option maxHeartbeats 4000000
namespace L2.LW
open PySem PySem.Spec PyProof.Rows
inductive ArgOk (K:PySem.W.Frag)(ρ:LW.Env)(σ:St)(H H':Hp):AV->V->Prop where
 |e {d:D} {v:V} (h: ∀W,Rep K W H' d v):ArgOk K ρ σ H H' (.e d) v
 |l {ds:List D} {a:Addr} {xs:List V} (e:SqL K H' a xs/\Rd H' a (.lst xs)\/zyv K a xs) (r: ∀W,Reps K W H' ds xs):ArgOk K ρ σ H H' (.l ds) (.ref a)
 |s {i:Nat} {x:SV} {d:D} {a:Addr} (h:ρ[i]? =some (some x)) (c:x.cell=some d) (k:zgt d=true) (e:σ[i]? =some (some (.ref a))):ArgOk K ρ σ H H' (.s i d) (.ref a)
 |n {t:Bool} {a:Addr} {o:HO} (h:H a=Option.none) (e:H' a=some o) (r: ∀W,ORep K W H' (.dct t [] []) o):ArgOk K ρ σ H H' (.n t) (.ref a)
noncomputable def tMA(K:PySem.W.Frag)(fn:Nat->List D->Option SV)(ma:MA):TA:=fun σ H Q=>∃W ρ xs,R K W ρ σ H/\zgq fn ma ρ=some xs/\∀vs H',Same H H'->Paired (ArgOk K ρ σ H H') xs vs->Q vs H'
structure IMA (X:Cx)(fn:Nat->List D->Option SV)(es:List Expr)(ma:MA):Prop where
 h:PA X es (tMA X.K fn ma)
noncomputable def tM(K:PySem.W.Frag)(fa:Nat->List D->Option Ans)(m:M):TE:=fun σ H Q=>∃W ρ r ρ',R K W ρ σ H/\evM fa m ρ=some (r,ρ')/\∀v H',SPost K W ρ σ H W ρ' σ H'->Res K W H H' r v->Q v H'
structure IM (X:Cx)(fa:Nat->List D->Option Ans)(e:Expr)(m:M):Prop where
 h:PE X e (tM X.K fa m)
theorem ArgOk.same{K:PySem.W.Frag}{ρ:LW.Env}{σ:St}{H H' H'':Hp}{x:AV}{v:V}(h:ArgOk K ρ σ H H' x v)(s:Same H' H''):ArgOk K ρ σ H H'' x v:=by
 cases h with
 |e h=>exact .e fun W=>(h W).ext (.same s)
 |l e r=>
  refine .l ?_ fun W=>(r W).ext (.same s)
  rcases e with ⟨e1,e2⟩|e
  ·refine .inl ⟨s.seq e1,?_⟩
   rcases e2 with e2|⟨o,e2⟩
   ·exact .inl (s _ _ e2)
   ·exact .inr ⟨o,s _ _ e2⟩
  ·exact .inr e
 |s h c k e=>exact .s h c k e
 |n h e r=>exact .n h (s _ _ e) fun W=>(r W).ext (.same s)
theorem ArgOk.back{K:PySem.W.Frag}{ρ:LW.Env}{σ:St}{H H' H'':Hp}{x:AV}{v:V}(h:ArgOk K ρ σ H' H'' x v)(s:Same H H'):ArgOk K ρ σ H H'' x v:=by
 cases h with
 |e h=>exact .e h
 |l e r=>exact .l e r
 |s h c k e=>exact .s h c k e
 |n h e r=>exact .n (s.free h) e r
theorem zcH{K:PySem.W.Frag}{ρ:LW.Env}{σ:St}{H H' H'':Hp}: ∀{xs:List AV} {vs:List V},Paired (ArgOk K ρ σ H' H'') xs vs->Same H H'->Paired (ArgOk K ρ σ H H'') xs vs
 |_,_,.nil,_=>.nil
 |_,_,.cons h t,s=>.cons (h.back s) (zcH t s)
section
variable {X:Cx} {fn:Nat->List D->Option SV} {fa:Nat->List D->Option Ans} {fuel:Nat} {a b c e:Expr} {ca cb cc ce:E} {es:List Expr} {cs:Es} {ma:MA} {m:M} {pos p:Pos} {x:Str} {st:Stmt} {sts sts':List Stmt} {s:S} {ss s1 s2:Ss}
theorem zqH:IMA X fn [] .nil:=.mk <| zgM.imp fun σ H Q zz3=>by
 obtain⟨W,ρ,rs,hR,he,q⟩:=zz3
 simp only[zqw] at he;cases he;exact q _ H (.refl H) .nil
theorem zsN(he:IE X fn e ce)(h:IMA X fn es ma)(hs:starEach (e::es) X.env=(false,eval e X.env)::starEach es X.env:=by rfl):IMA X fn (e::es) (.e ce ma):=
 .mk <| (zct he.v h.h hs).imp fun σ H Q zz3=>by
  obtain⟨W,ρ,rs,hR,hx,q⟩:=zz3
  simp only[zzL,jo1,jo2] at hx
  obtain⟨r,e1,av,e2,xs,e3,rfl⟩:=hx
  refine⟨W,ρ,r,hR,e1,fun v H1 s1 f=>⟨W,ρ,xs,hR.same s1,e3,fun vs H2 s2 fs=>q _ H2 (s1.trans s2) (.cons ?_ (zcH fs s1))⟩⟩
  unfold zkQ at e2
  split at e2
  ·rename_i ds
   split at e2
   ·rename_i hp
    cases e2
    cases f with
    |val f=>
     cases f with
     |lst h r=>
      refine .l ?_ fun W'=>(r.plain hp).ext (.same s2)
      rcases h with ⟨_,h⟩|h
      ·refine .inl ⟨s2.seq (.inl h),?_⟩
       rcases h with h|⟨o,h⟩
       ·exact .inl (s2 _ _ h)
       ·exact .inr ⟨o,s2 _ _ h⟩
      ·exact .inr h
   ·cases e2
  ·rename_i d _
   split at e2
   ·rename_i hp
    cases e2
    cases f with
    |val f=>exact .e fun W'=>(f.plain hp).ext (.same s2)
   ·cases e2
  ·rename_i o ds
   split at e2
   ·rename_i hp
    cases e2
    cases f with
    |lis h e r=>
     cases r with
     |lst r=>exact .l (.inl ⟨.of (s2 _ _ e),.inl (s2 _ _ e)⟩) fun W'=>(r.plain hp).ext (.same s2)
    |see h e r=>
     cases r with
     |lst r=>exact .l (.inl ⟨.of (s2 _ _ e),.inl (s2 _ _ e)⟩) fun W'=>(r.plain hp).ext (.same s2)
   ·cases e2
  ·cases e2
theorem zyz(i:Nat)(hN:X.N[i]? =some x)(hv:Vis X.env.scope x)(h:IMA X fn es ma)(hd:(x==("__debug__":Str))=false)(hcd:(x==("__classdict__":Str))=false):IMA X fn (.Name x p::es) (.s i ma):=
 .mk <| (zct (zfz hN hv hd hcd) h.h rfl).imp fun σ H Q zz3=>by
  obtain⟨W,ρ,rs,hR,hx,q⟩:=zz3
  simp only[zzM,jo1] at hx
  obtain⟨d,e1,e2⟩:=hx
  split at e2
  ·rename_i hk
   rw[jo2] at e2
   obtain⟨xs,e3,rfl⟩:=e2
   unfold zdH at e1
   split at e1
   ·rename_i y h1
    obtain⟨a,o,h2,_⟩:=hR.own i y d h1 e1
    exact⟨_,h2,W,ρ,xs,hR,e3,fun vs H2 s2 fs=>q _ H2 s2 (.cons (.s h1 e1 hk h2) fs)⟩
   ·cases e1
  ·cases e2
theorem zAQ(t:Bool)(h:IMA X fn es ma):IMA X fn (.Dict [] [] p::es) (.n t ma):=by
 refine .mk ?_
 cases t with
 |false=>
  refine (zct zkM h.h rfl).imp fun σ H Q ⟨W,ρ,rs,hR,hx,q⟩=>?_
  simp only[zyu,jo2] at hx
  obtain⟨xs,e3,rfl⟩:=hx
  intro p hp
  have s1:=zaO hp (.dK [])
  exact⟨W,ρ,xs,hR.same s1,e3,fun vs H2 s2 fs=>q _ H2 (s1.trans s2) (.cons (.n hp (s2 _ _ zbe) fun W=>.dK (ns:=[]) (ys:=[]) rfl .nil) (zcH fs s1))⟩
 |true=>
  refine (zct zkN h.h rfl).imp fun σ H Q ⟨W,ρ,rs,hR,hx,q⟩=>?_
  simp only[zyu,jo2] at hx
  obtain⟨xs,e3,rfl⟩:=hx
  intro p hp
  have s1:=zaO hp (.dT [])
  exact⟨W,ρ,xs,hR.same s1,e3,fun vs H2 s2 fs=>q _ H2 (s1.trans s2) (.cons (.n hp (s2 _ _ zbe) fun W=>.dT (ns:=[]) (ys:=[]) rfl .nil) (zcH fs s1))⟩
end
noncomputable def zr0:MA->Nat->List Nat
 | .nil,_=>[]
 | .e _ r,k=>zr0 r (k+1)
 | .s _ r,k=>k::zr0 r (k+1)
 | .n _ r,k=>k::zr0 r (k+1)
noncomputable def zeF:MA->List Nat
 | .nil=>[]
 | .e _ r=>zeF r
 | .s i r=>i::zeF r
 | .n _ r=>zeF r
noncomputable def zgZ:MA->Nat
 | .nil=>0
 | .e _ r=>zgZ r
 | .s _ r=>zgZ r
 | .n _ r=>zgZ r+1
noncomputable def ioX:List AV->Nat->List Nat
 |[],_=>[]
 | .e _::r,k=>ioX r (k+1)
 | .l _::r,k=>ioX r (k+1)
 | .s _ _::r,k=>k::ioX r (k+1)
 | .n _::r,k=>k::ioX r (k+1)
noncomputable def slX:List AV->List Nat
 |[]=>[]
 | .s i _::r=>i::slX r
 |_::r=>slX r
noncomputable def nwX:List AV->Nat
 |[]=>0
 | .n _::r=>nwX r+1
 |_::r=>nwX r
theorem zcI{fn:Nat->List D->Option SV}{ρ:LW.Env}: ∀{ma:MA} {xs:List AV},zgq fn ma ρ=some xs->(∀k,ioX xs k=zr0 ma k)/\slX xs=zeF ma/\nwX xs=zgZ ma
 | .nil,xs,h=>by simp only[zqw] at h;cases h;exact⟨fun _=>rfl,rfl,rfl⟩
 | .e c r,xs,h=>by
  simp only[zzL,jo1,jo2] at h
  obtain⟨x,_,av,e2,ys,e3,rfl⟩:=h
  obtain⟨h1,h2,h3⟩:=zcI e3
  unfold zkQ at e2
  split at e2
  ·split at e2
   ·cases e2;exact⟨fun k=>h1 (k+1),h2,h3⟩
   ·cases e2
  ·split at e2
   ·cases e2;exact⟨fun k=>h1 (k+1),h2,h3⟩
   ·cases e2
  ·split at e2
   ·cases e2;exact⟨fun k=>h1 (k+1),h2,h3⟩
   ·cases e2
  ·cases e2
 | .s i r,xs,h=>by
  simp only[zzM,jo1] at h
  obtain⟨d,_,e2⟩:=h
  split at e2
  ·rw[jo2] at e2
   obtain⟨ys,e3,rfl⟩:=e2
   obtain⟨h1,h2,h3⟩:=zcI e3
   exact⟨fun k=>by simp only[ioX,zr0,h1],by simp only[slX,zeF,h2],h3⟩
  ·cases e2
 | .n t r,xs,h=>by
  simp only[zyu,jo2] at h
  obtain⟨ys,e3,rfl⟩:=h
  obtain⟨h1,h2,h3⟩:=zcI e3
  exact⟨fun k=>by simp only[ioX,zr0,h1],h2,by simp only[nwX,zgZ,h3]⟩
noncomputable def zlV:AV->Bool
 | .s _ _=>true
 | .n _=>true
 |_=>false
theorem zfL: ∀{xs:List AV} {j k:Nat},k∈ioX xs j↔j<=k/\∃x,xs[k-j]? =some x/\zlV x=true
 |[],j,k=>by simp[ioX]
 |x::r,j,k=>by
  have ih:=zfL (xs:=r) (j:=j+1) (k:=k)
  have key:k∈ioX r (j+1)↔j<=k/\k≠j/\∃y,(x::r)[k-j]? =some y/\zlV y=true:=by
   rw[ih]
   constructor
   ·rintro⟨h1,y,h2,h3⟩
    refine⟨by omega,by omega,y,?_,h3⟩
    have e:k-j=(k-(j+1))+1:=by omega
    rw[e,List.getElem?_cons_succ];exact h2
   ·rintro⟨h1,h0,y,h2,h3⟩
    have e:k-j=(k-(j+1))+1:=by omega
    rw[e,List.getElem?_cons_succ] at h2
    exact⟨by omega,y,h2,h3⟩
  have no:zlV x=false->(k∈ioX r (j+1)↔j<=k/\∃y,(x::r)[k-j]? =some y/\zlV y=true):=fun hx=>by
   rw[key]
   constructor
   ·rintro⟨h1,_,h2⟩;exact⟨h1,h2⟩
   ·rintro⟨h1,y,h2,h3⟩
    refine⟨h1,fun e=>?_,y,h2,h3⟩
    subst e
    rw[Nat.sub_self] at h2
    cases h2
    rw[hx] at h3;cases h3
  have yes:zlV x=true->(k=j\/k∈ioX r (j+1)↔j<=k/\∃y,(x::r)[k-j]? =some y/\zlV y=true):=fun hx=>by
   rw[key]
   constructor
   ·rintro (rfl|⟨h1,_,h2⟩)
    ·exact⟨Nat.le_refl _,x,by rw[Nat.sub_self];rfl,hx⟩
    ·exact⟨h1,h2⟩
   ·rintro⟨h1,h2⟩
    by_cases e:k=j
    ·exact .inl e
    ·exact .inr ⟨h1,e,h2⟩
  cases x with
  |e d=>exact no rfl
  |l d=>exact no rfl
  |s i d=>rw[ioX,List.mem_cons];exact yes rfl
  |n t=>rw[ioX,List.mem_cons];exact yes rfl
theorem zdg{α β:Type}{F:α->β->Prop}: ∀{xs:List α} {vs:List β} {k:Nat} {x:α},Paired F xs vs->xs[k]? =some x->∃v,vs[k]? =some v/\F x v
 |_,_,_,_,.nil,e=>by simp at e
 |_,_,0,_,.cons h _,e=>by simp at e;subst e;exact⟨_,rfl,h⟩
 |_,_,k+1,x,.cons _ t,e=>by
  obtain⟨v,h1,h2⟩:=zdg (k:=k) (x:=x) t (by simpa using e)
  exact⟨v,by simpa using h1,h2⟩
theorem zhB: ∀{xs:List AV} {i:Nat},i∈slX xs↔∃(k:Nat) (d:D),xs[k]? =some (AV.s i d)
 |[],i=>by simp[slX]
 |x::r,i=>by
  have ih:=zhB (xs:=r) (i:=i)
  have up:(∃(k:Nat) (d:D),r[k]? =some (AV.s i d))->∃(k:Nat) (d:D),(x::r)[k]? =some (AV.s i d):=fun ⟨k,d,h⟩=>⟨k+1,d,by simpa using h⟩
  have dn:(∀d,x≠ .s i d)->(∃(k:Nat) (d:D),(x::r)[k]? =some (AV.s i d))->∃(k:Nat) (d:D),r[k]? =some (AV.s i d):=fun hx zz1=>by
   obtain⟨k,d,h⟩:=zz1
   cases k with
   |zero=>cases h;exact absurd rfl (hx d)
   |succ k=>exact⟨k,d,by simpa using h⟩
  cases x with
  |s j d0=>
   rw[slX,List.mem_cons,ih]
   constructor
   ·rintro (rfl|h)
    ·exact⟨0,d0,rfl⟩
    ·exact up h
   ·intro h
    by_cases e:i=j
    ·exact .inl e
    ·exact .inr (dn (fun d z=>by cases z;exact e rfl) h)
  |e d=>show i∈slX r↔_;rw[ih];exact⟨up,dn fun _ z=>nomatch z⟩
  |l d=>show i∈slX r↔_;rw[ih];exact⟨up,dn fun _ z=>nomatch z⟩
  |n d=>show i∈slX r↔_;rw[ih];exact⟨up,dn fun _ z=>nomatch z⟩
theorem znu: ∀{xs:List AV} {j k i:Nat} {d e:D},(slX xs).Nodup->xs[j]? =some (.s i d)->xs[k]? =some (.s i e)->j=k
 |[],_,_,_,_,_,_,h,_=>by simp at h
 |x::r,j,k,i,d,e,hn,h1,h2=>by
  have hr:(slX r).Nodup:=by
   cases x with
   |s i d=>rw[slX,List.nodup_cons] at hn;exact hn.2
   |_=>exact hn
  cases j with
  |zero=>
   cases k with
   |zero=>rfl
   |succ k=>
    cases h1
    rw[slX,List.nodup_cons] at hn
    exact absurd (zhB.mpr ⟨k,e,by simpa using h2⟩) hn.1
  |succ j=>
   cases k with
   |zero=>
    cases h2
    rw[slX,List.nodup_cons] at hn
    exact absurd (zhB.mpr ⟨j,d,by simpa using h1⟩) hn.1
   |succ k=>rw[znu (j:=j) (k:=k) hr (by simpa using h1) (by simpa using h2)]
theorem znv: ∀{xs:List AV} {j k:Nat} {t u:Bool},nwX xs<=1->xs[j]? =some (.n t)->xs[k]? =some (.n u)->j=k
 |[],_,_,_,_,_,h,_=>by simp at h
 |x::r,j,k,t,u,hn,h1,h2=>by
  have pos: ∀{r:List AV} {k:Nat} {u:Bool},r[k]? =some (AV.n u)->0<nwX r:=by
   intro r
   induction r with
   |nil=>intro k u h;simp at h
   |cons y r ih=>
    intro k u h
    cases k with
    |zero=>cases h;simp[nwX]
    |succ k=>
     have:=ih (k:=k) (u:=u) (by simpa using h)
     cases y<;>simp[nwX]<;>omega
  cases j with
  |zero=>
   cases k with
   |zero=>rfl
   |succ k=>
    cases h1
    have:=pos (k:=k) (u:=u) (r:=r) (by simpa using h2)
    simp[nwX] at hn;omega
  |succ j=>
   cases k with
   |zero=>
    cases h2
    have:=pos (k:=j) (u:=t) (r:=r) (by simpa using h1)
    simp[nwX] at hn;omega
   |succ k=>
    have hr:nwX r<=1:=by cases x<;>simp[nwX] at hn<;>omega
    rw[znv (j:=j) (k:=k) hr (by simpa using h1) (by simpa using h2)]
inductive OutsX (K:PySem.W.Frag)(W:Addr->Prop)(H:Hp):List AV->List V->List D->Prop where
 |nil:OutsX K W H [] [] []
 |e {d:D} {v:V} {xs:List AV} {vs:List V} {os:List D} (t:OutsX K W H xs vs os):OutsX K W H (.e d::xs) (v::vs) os
 |l {d:List D} {v:V} {xs:List AV} {vs:List V} {os:List D} (t:OutsX K W H xs vs os):OutsX K W H (.l d::xs) (v::vs) os
 |s {i:Nat} {d:D} {a:Addr} {o:HO} {d':D} {xs:List AV} {vs:List V} {os:List D} (e:H a=some o) (r:ORep K W H d' o) (t:OutsX K W H xs vs os):OutsX K W H (.s i d::xs) (.ref a::vs) (d'::os)
 |n {b:Bool} {v:V} {d':D} {xs:List AV} {vs:List V} {os:List D} (t:OutsX K W H xs vs os):OutsX K W H (.n b::xs) (v::vs) (d'::os)
theorem zqI{K:PySem.W.Frag}{W:Addr->Prop}{H:Hp}{F:AV->V->Prop}: ∀{xs:List AV} {vs pre:List V} {os:List D},Paired F xs vs->zwq K W H (ioX xs pre.length) (pre++vs) os->OutsX K W H xs vs os
 |_,_,pre,os,.nil,h=>by
  simp only[ioX] at h
  cases h;exact .nil
 |_,_,pre,os,.cons (a:=x) (b:=v) (l₁:=xs) (l₂:=vs) _ t,h=>by
  have step: ∀{os:List D},zwq K W H (ioX xs (pre.length+1)) (pre++v::vs) os->OutsX K W H xs vs os:=fun {os} h=>
   zqI (pre:=pre++[v]) t (by simpa using h)
  cases x with
  |e d=>exact .e (step h)
  |l d=>exact .l (step h)
  |s i d=>
   simp only[ioX] at h
   cases h with
   |cons h r=>
    obtain⟨a,o,e1,e2,e3⟩:=h
    simp at e1
    subst e1
    exact .s e2 e3 (step r)
  |n b=>
   simp only[ioX] at h
   cases h with
   |cons h r=>exact .n (step r)
structure Upd (K:PySem.W.Frag)(W:Addr->Prop)(ρ:LW.Env)(σ:St)(H:Hp)(ρ':LW.Env)(sl:List Nat):Prop where
 len:ρ'.length=ρ.length
 other: ∀i,i∉sl->ρ'[i]? =ρ[i]?
 at_: ∀i∈sl,∃x d a o,ρ[i]? =some (some x)/\x.cell.isSome=true/\ρ'[i]? =some (some (x.put d))/\σ[i]? =some (some (.ref a))/\H a=some o/\ORep K W H d o
theorem zd4{K:PySem.W.Frag}{W:Addr->Prop}{ρ0:LW.Env}{σ:St}{H0 H1 H':Hp}: ∀{xs:List AV} {vs:List V} {os:List D} {ρ ρ':LW.Env},Paired (ArgOk K ρ0 σ H0 H1) xs vs->(slX xs).Nodup->(∀i∈slX xs,ρ[i]? =ρ0[i]?)->OutsX K W H' xs vs os->zfE ρ xs os=some ρ'->Upd K W ρ σ H' ρ' (slX xs)
 |_,_,_,ρ,ρ',.nil,_,_,h,e=>by
  cases h
  simp only[zfE] at e
  cases e
  exact⟨rfl,fun _ _=>rfl,fun i h=>(by cases h)⟩
 |_,_,_,ρ,ρ',.cons (a:=x) (b:=v) (l₁:=xs) (l₂:=vs) hx t,hn,hs,h,e=>by
  cases h with
  |e h=>simp only[zfE] at e;show Upd K W ρ σ H' ρ' (slX xs);exact zd4 (xs:=xs) t hn hs h e
  |l h=>simp only[zfE] at e;show Upd K W ρ σ H' ρ' (slX xs);exact zd4 (xs:=xs) t hn hs h e
  |n h=>simp only[zfE] at e;show Upd K W ρ σ H' ρ' (slX xs);exact zd4 (xs:=xs) t hn hs h e
  |s e1 r h=>
   rename_i i d a o d' os
   simp only[zfE] at e
   rw[slX,List.nodup_cons] at hn
   cases hx with
   |s h1 c k e2=>
    rename_i y
    have h1':ρ[i]? =some (some y):=by rw[hs i (by simp[slX])];exact h1
    have ep:zsM ρ i d'=ρ.set i (some (y.put d')):=by unfold zsM;rw[h1']
    rw[ep] at e
    have hl:i<ρ.length:=(List.getElem?_eq_some_iff.mp h1').1
    obtain⟨l,ot,at_⟩:=zd4 t hn.2 (fun j hj=>by
     rw[zaF (fun z=>hn.1 (by rw[z];exact hj))]
     exact hs j (by rw[slX];exact List.mem_cons_of_mem _ hj)) h e
    refine⟨by simpa using l,fun j hj=>?_,fun j hj=>?_⟩
    ·rw[slX,List.mem_cons] at hj
     rw[ot j (fun z=>hj (.inr z)),zaF (fun z=>hj (.inl z.symm))]
    ·rw[slX,List.mem_cons] at hj
     by_cases ej:j=i
     ·subst ej
      refine⟨y,d',a,o,h1',by rw[c];rfl,?_,e2,e1,r⟩
      rw[ot j hn.1,zcX hl]
     ·obtain⟨x,d,a,o,z1,z2⟩:=at_ j (hj.resolve_left ej)
      rw[zaF (fun z=>ej z.symm)] at z1
      exact⟨x,d,a,o,z1,z2⟩
theorem zpy{K:PySem.W.Frag}{W:Addr->Prop}{ρ ρ':LW.Env}{σ:St}{H H':Hp}{sl:List Nat}(r:R K W ρ σ H)(u:Upd K W ρ σ H' ρ' sl)(keep: ∀a o,H a=some o->(∀i∈sl,σ[i]? ≠some (some (.ref a)))->H' a=some o):SPost K W ρ σ H W ρ' σ H':=by
 have cellOf: ∀{x:SV},x.cell.isSome=true->∃d,x.cell=some d:=fun {x} h=>Option.isSome_iff_exists.mp h
 have ownSl: ∀{i:Nat} {a:Addr},i∈sl->σ[i]? =some (some (.ref a))->Own ρ σ a:=fun {i a} hi e=>by
  obtain⟨x,d,a',o,h1,h2,_⟩:=u.at_ i hi
  obtain⟨d0,hc⟩:=cellOf h2
  exact⟨i,x,d0,h1,hc,e⟩
 have kp: ∀a o,H a=some o->¬Own ρ σ a->H' a=some o:=fun a o h n=>keep a o h fun i hi e=>n (ownSl hi e)
 have ext:Ext W H W H':=by
  refine⟨fun a o h n=>kp a o h fun z=>n (r.ownW z).1,fun a xs h=>kp a _ h fun z=>?_,fun a o w h=>kp a _ h fun z=>?_,fun a w=>.inl w⟩
  ·obtain⟨_,o,d,e,q⟩:=r.ownW z
   rw[h] at e;cases e;exact q.kind.1 xs rfl
  ·obtain⟨_,o,d,e,q⟩:=r.ownW z
   rw[h] at e;cases e;exact q.kind.2 _ _ rfl
 have old: ∀{k:Nat} {y:SV} {es:D},ρ'[k]? =some (some y)->y.cell=some es->∃y' es',ρ[k]? =some (some y')/\y'.cell=some es':=fun {k y es} q c=>by
  by_cases hk:k∈sl
  ·obtain⟨x,d,a',o,h1,h2,_⟩:=u.at_ k hk
   obtain⟨d0,hc⟩:=cellOf h2
   exact⟨x,d0,h1,hc⟩
  ·rw[u.other k hk] at q;exact⟨y,es,q,c⟩
 refine⟨⟨fun k d hk=>?_,fun k d hk=>?_,fun k y es hk hc=>?_,fun k l x y e1 e2 b h1 h2 c1 c2 h3 h4=>?_,fun b w=>?_,by rw[u.len];exact r.len⟩,kp,fun b w=>.inl w,fun b w n=>⟨w,fun ⟨k,y,es,z1,c,z2⟩=>?_⟩,fun j=>⟨?_,fun _=>rfl⟩⟩
 ·by_cases hs:k∈sl
  ·obtain⟨x,d',a',o,h1,h2,h3,_⟩:=u.at_ k hs
   rw[h3] at hk
   exact absurd (Option.some.inj (Option.some.inj hk)) (znj _ _ _)
  ·rw[u.other k hs] at hk
   obtain⟨v,h1,h2⟩:=r.val k d hk
   exact⟨v,h1,h2.ext ext⟩
 ·by_cases hs:k∈sl
  ·obtain⟨x,d',a',o,h1,h2,h3,_⟩:=u.at_ k hs
   rw[h3] at hk
   exact absurd (Option.some.inj (Option.some.inj hk)) (znk _ _ _)
  ·rw[u.other k hs] at hk
   exact r.nol k d hk
 ·by_cases hs:k∈sl
  ·obtain⟨x,d',a',o,h1,h2,h3,h4,h5,h6⟩:=u.at_ k hs
   rw[h3] at hk
   cases hk
   rw[zkW] at hc
   cases hc
   obtain⟨d0,hc0⟩:=cellOf h2
   exact⟨a',o,h4,(r.ownW ⟨k,x,d0,h1,hc0,h4⟩).1,h5,h6⟩
  ·rw[u.other k hs] at hk
   obtain⟨b,ys,h1,h2,h3,h4⟩:=r.own k y es hk hc
   refine⟨b,ys,h1,h2,keep b ys h3 fun i hi e=>hs ?_,h4.ext ext⟩
   obtain⟨x,d',a',o,g1,g2,_⟩:=u.at_ i hi
   obtain⟨d0,hc0⟩:=cellOf g2
   rw[r.inj k i y x es d0 b hk g1 hc hc0 h1 e]
   exact hi
 ·obtain⟨_,_,z1,w1⟩:=old h1 c1
  obtain⟨_,_,z2,w2⟩:=old h2 c2
  exact r.inj k l _ _ _ _ b z1 z2 w1 w2 h3 h4
 ·cases e:H b with
  |none=>exact absurd e (r.wf b w)
  |some o=>
   by_cases hz: ∃i∈sl,σ[i]? =some (some (.ref b))
   ·obtain⟨i,hi,e'⟩:=hz
    obtain⟨x,d',a',o,g1,g2,g3,g4,g5,_⟩:=u.at_ i hi
    rw[e'] at g4;cases g4
    rw[g5];exact fun z=>nomatch z
   ·rw[keep b o e fun i hi e'=>hz ⟨i,hi,e'⟩];exact fun z=>nomatch z
 ·obtain⟨_,_,z,w'⟩:=old z1 c
  exact n ⟨k,_,_,z,w',z2⟩
 ·by_cases hs:j∈sl
  ·obtain⟨x,d',a',o,h1,h2,h3,_⟩:=u.at_ j hs
   unfold ziq
   rw[h1,h3]
   constructor
   ·rintro⟨d2,z⟩
    obtain⟨d3,w⟩:=zkX.mp ⟨d2,Option.some.inj (Option.some.inj z)⟩
    exact⟨d3,by rw[w]⟩
   ·rintro⟨d2,z⟩
    obtain⟨d3,w⟩:=zkX (d:=d') |>.mpr ⟨d2,Option.some.inj (Option.some.inj z)⟩
    exact⟨d3,by rw[w]⟩
  ·unfold ziq;rw[u.other j hs]
section
variable {X:Cx} {fn:Nat->List D->Option SV} {fa:Nat->List D->Option Ans} {fuel:Nat} {a b c e:Expr} {ca cb cc ce:E} {es:List Expr} {cs:Es} {ma:MA} {m:M} {pos p:Pos} {x:Str} {st:Stmt} {sts sts':List Stmt} {s:S} {ss s1 s2:Ss}
theorem znw{K:PySem.W.Frag}{W:Addr->Prop}{H:Hp}{d:D}{o:HO}(h:ORep K W H d o)(k:zgt d=true): ∀xs,o≠ .lst xs:=by
 cases h with
 |lst r=>cases k
 |dK l r=>exact fun _ z=>nomatch z
 |dT l r=>exact fun _ z=>nomatch z
theorem znx{d:D}(k:zgt d=true):zbU d=true:=by
 cases d with
 |dct t ks vs=>exact k
 |_=>cases k
theorem OutsX.plain{K:PySem.W.Frag}{W W':Addr->Prop}{H:Hp}{xs:List AV}{vs:List V}{os:List D}(h:OutsX K W H xs vs os)(p:os.all zbU=true):OutsX K W' H xs vs os:=by
 induction h with
 |nil=>exact .nil
 |e _ ih=>exact .e (ih p)
 |l _ ih=>exact .l (ih p)
 |s e r _ ih=>
  simp only[List.all_cons,Bool.and_eq_true] at p
  exact .s e (r.plain p.1) (ih p.2)
 |n _ ih=>
  simp only[List.all_cons,Bool.and_eq_true] at p
  exact .n (ih p.2)
theorem Res.fine{K:PySem.W.Frag}{W W':Addr->Prop}{H H':Hp}{r:SV}{v:V}(h:Res K W' H H' r v)(p:r.fine=true):Res K W H H' r v:=by
 cases h with
 |val h=>exact .val (h.plain p)
 |new h e r=>exact .new h e (r.plain p)
 |see h e r=>cases p
theorem zqJ{k:Nat}{f:Addr}{fd:FuncData}{ps:List Str}{i:Nat}{io:List Nat}(F:FnOk X.prog X.w X.K X.mg X.base CX0 k f fd ps (spA X.K fa i io))(hio:io=zr0 ma 0)(hnd:(zeF ma).Nodup)(hnw:zgZ ma<=1)
  (hr:Room k X.A) (hg:Gl X x) (hm:X.mg x=some (.ref f)) (hk:PySem.W.keepIn X.K (.ref f)=true)
  (hb:Binds X.K fd ps []) (ha:IMA X (prj fa) (e::es) ma) (hdb:(x==("__debug__":Str))=false:=by decide) (he:starEach (e::es) X.env=(false,eval e X.env)::starEach es X.env:=by rfl)
  (hpl:(backTo pos (starEach es X.env)).any (·.1)=false:=by rfl):IM X fa (.Call (.Name x p) (e::es) [] pos) (.call i ma):=
 .mk <| (zmL F hr hg hm hk hb .nil ztB ha.h hdb he hpl).imp fun σ H Q zz3=>by
  obtain⟨W,ρ,r,ρ',hR,h,q⟩:=zz3
  simp only[zrE,jo1] at h
  obtain⟨xs,e1,an,e2,e3⟩:=h
  obtain⟨r',outs,rfl⟩: ∃r' outs,an=Ans.ok r' outs:=by
   cases an with
   |ok r o=>exact⟨r,o,rfl⟩
   |ex c=>cases e3
  simp only at e3
  split at e3
  case isFalse=>cases e3
  rename_i hp
  rw[Bool.and_eq_true] at hp
  rw[jo2] at e3
  obtain⟨ρ2,e3,e4⟩:=e3
  cases e4
  refine⟨W,ρ,xs,hR,e1,fun vs H1 s1 f=>?_⟩
  show spA X.K fa i io (vs++[]) H1 Q E0
  rw[List.append_nil]
  obtain⟨t1,t2,t3⟩:=zcI e1
  have hio':io=ioX xs 0:=by rw[hio,t1]
  subst hio'
  rw[<-t2] at hnd
  rw[<-t3] at hnw
  have at_: ∀{k:Nat} {a:Addr},k∈ioX xs 0->vs[k]? =some (.ref a)->(∃i d y,xs[k]? =some (.s i d)/\ρ[i]? =some (some y)/\y.cell=some d/\zgt d=true/\σ[i]? =some (some (.ref a)))\/(∃t,xs[k]? =some (.n t)/\H a=Option.none/\∃o,H1 a=some o/\∀W,ORep X.K W H1 (.dct t [] []) o):=fun {k a} hk hv=>by
   obtain⟨_,x,hx,hi⟩:=zfL.mp hk
   rw[Nat.sub_zero] at hx
   obtain⟨v,h1,h2⟩:=zdg f hx
   rw[hv] at h1
   cases h1
   cases h2 with
   |e _=>cases hi
   |l _ _=>cases hi
   |s g1 g2 g3 g4=>exact .inl ⟨_,_,_,hx,g1,g2,g3,g4⟩
   |n g1 g2 g3=>exact .inr ⟨_,hx,g1,_,g2,g3⟩
  have hR1:=hR.same s1
  have ioD: ∀a,ioV (ioX xs 0) vs a->∃o,H1 a=some o/\∀zs,o≠ .lst zs:=fun a zz1=>by
   obtain⟨k,hk,hv⟩:=zz1
   rcases at_ hk hv with ⟨i,d,y,_,g1,g2,g3,g4⟩|⟨t,_,_,o,g2,g3⟩
   ·obtain⟨b,o,z1,z2,z3,z4⟩:=hR1.own i y d g1 g2
    rw[g4] at z1;cases z1
    exact⟨o,z3,znw z4 g3⟩
   ·exact⟨o,g2,znw (g3 W) rfl⟩
  have ar:ARep X.K (ioV (ioX xs 0) vs) H1 (ioX xs 0) (xs.map zqt) vs:=by
   refine⟨by rw[List.length_map];exact Paired.length f,fun k d hd hk=>?_,fun k d hd hk=>?_,fun j k a hj hk h1 h2=>?_⟩
   ·rw[List.getElem?_map,jo2] at hd
    obtain⟨x,hx,rfl⟩:=hd
    obtain⟨v,h1,h2⟩:=zdg f hx
    refine⟨v,h1,?_⟩
    cases h2 with
    |e g=>exact g _
    |l g1 g2=>
     refine .lst ?_ (g2 _)
     rcases g1 with ⟨_,g1⟩|g1
     ·refine .inl ⟨fun z=>?_,g1⟩
      obtain⟨o,z1,z2⟩:=ioD _ z
      rcases g1 with g1|⟨ob,g1⟩
      ·rw[g1] at z1;cases z1;exact z2 _ rfl
      ·rw[g1] at z1;cases z1
       obtain⟨k',hk',hv'⟩:=z
       rcases at_ hk' hv' with ⟨i,d,y,_,c1,c2,c3,c4⟩|⟨t,_,_,o,c2,c3⟩
       ·obtain⟨b,o,y1,y2,y3,y4⟩:=hR1.own i y d c1 c2
        rw[c4] at y1;cases y1
        rw[g1] at y3;cases y3
        exact y4.kind.2 _ _ rfl
       ·rw[g1] at c2;cases c2
        exact (c3 W).kind.2 _ _ rfl
     ·exact .inr g1
    |s _ _ _ _=>exact absurd (zfL.mpr ⟨Nat.zero_le _,_,by rw[Nat.sub_zero];exact hx,rfl⟩) hk
    |n _ _ _=>exact absurd (zfL.mpr ⟨Nat.zero_le _,_,by rw[Nat.sub_zero];exact hx,rfl⟩) hk
   ·rw[List.getElem?_map,jo2] at hd
    obtain⟨x,hx,rfl⟩:=hd
    obtain⟨v,h1,h2⟩:=zdg f hx
    have hio:=zfL.mp hk
    obtain⟨_,x',hx',hi'⟩:=hio
    rw[Nat.sub_zero,hx] at hx'
    cases hx'
    cases h2 with
    |e _=>cases hi'
    |l _ _=>cases hi'
    |s g1 g2 g3 g4=>
     obtain⟨b,o,z1,z2,z3,z4⟩:=hR1.own _ _ _ g1 g2
     rw[g4] at z1;cases z1
     exact⟨_,o,h1,⟨k,hk,h1⟩,z3,z4.plain (znx g3)⟩
    |n g1 g2 g3=>exact⟨_,_,h1,⟨k,hk,h1⟩,g2,g3 _⟩
   ·rcases at_ hj h1 with ⟨i,d,y,w0,c1,c2,c3,c4⟩|⟨t,w0,c1,_⟩
    ·rcases at_ hk h2 with ⟨i',d',y',w0',c1',c2',c3',c4'⟩|⟨t',w0',c1',_⟩
     ·have:=hR.inj i i' y y' d d' a c1 c1' c2 c2' c4 c4'
      subst this
      exact znu hnd w0 w0'
     ·exact absurd c1' (hR.wf _ (hR.ownW ⟨i,y,d,c1,c2,c4⟩).1)
    ·rcases at_ hk h2 with ⟨i',d',y',w0',c1',c2',c3',c4'⟩|⟨t',w0',c1',_⟩
     ·exact absurd c1 (hR.wf _ (hR.ownW ⟨i',y',d',c1',c2',c4'⟩).1)
     ·exact znv hnw w0 w0'
  refine⟨_,_,r,outs,fun a ha=>?_,ar,e2,fun v H' kp ho res=>?_⟩
  ·obtain⟨o,z,_⟩:=ioD a ha
   rw[z];exact fun z=>nomatch z
  ·refine q v H' (zpy hR (zd4 f hnd (fun _ _=>rfl) ((zqI (pre:=[]) f ho).plain hp.2) e3) fun a o h n=>kp a o (s1 _ _ h) fun ⟨k,hk,hv⟩=>?_) ((res.fine hp.1).back s1)
   rcases at_ hk hv with ⟨i,d,y,w0,c1,c2,c3,c4⟩|⟨t,w0,c1,_⟩
   ·exact n i (zhB.mpr ⟨k,d,w0⟩) c4
   ·rw[h] at c1;cases c1
theorem SPost.wf'{K:PySem.W.Frag}{W W':Addr->Prop}{ρ ρ':LW.Env}{σ σ':St}{H H':Hp}(p:SPost K W ρ σ H W' ρ' σ' H'):Wf W' H':=p.r.wf
theorem zr1(he:IM X fa e m)(hs:swapsWith e Option.none pos.line X.env=pure false:=by rfl):IS X (exS fa fuel (.exprM m)) (.Expr e pos):=
 .mk <| (zj0 he.h hs).imp fun D σ H zz3=>by
  obtain⟨W,ρ,x,hR,hx,q⟩:=zz3
  simp only[zpj,jo2] at hx
  obtain⟨⟨r,ρ'⟩,e1,rfl⟩:=hx
  exact⟨W,ρ,r,ρ',hR,e1,fun v H1 p1 _=>q W σ H1 p1⟩
theorem t_M(hE:IM X fa e m)(he: ∀whole,isTrue e X.env whole=(do let v <-whole;standAt e.pos;holding [v] (truthy v))):PT X e fun σ H Q=>∃W ρ r ρ' k,R X.K W ρ σ H/\evM fa m ρ=some (r,ρ')/\zbw r=some k/\∀H',SPost X.K W ρ σ H W ρ' σ H'->Q k H':=
 (zkJ hE.h he).imp fun σ H Q ⟨W,ρ,r,ρ',k,hR,e1,e2,q⟩=>⟨W,ρ,r,ρ',hR,e1,fun v H1 p1 f=>⟨k,znh (f.frz hR.wf) e2,q H1 p1⟩⟩
theorem zyA(hc:IT X (prj fa) c cc)(hm:IM X fa b m)(hb: ∀whole,isTrue b X.env whole=(do let v <-whole;standAt b.pos;holding [v] (truthy v)))(h1:ISs X (zaR fa fuel s1) sts)(h2:ISs X (zaR fa fuel s2) sts'):
  IS X (exS fa fuel (.ifO cc m s1 s2)) (.If (.BoolOp .Or [c,b] p) sts sts' pos):=
 .mk <| (ztg (PW.pt (ztc hc.h (zqn (t_M hm hb)))) h1.h h2.h).imp fun D σ H zz3=>by
  obtain⟨W,ρ,y,hR,hy,q⟩:=zz3
  simp only[ztU,jo1] at hy
  obtain⟨k,e1,e2⟩:=hy
  refine⟨W,ρ,k,hR,e1,fun H1 w1=>?_⟩
  have p1:=SPost.same hR w1
  cases k with
  |true=>
   rw[if_pos rfl] at e2
   exact zwi (zwi ⟨W,ρ,y,p1.r,e2,fun W2 σ2 H2 p2=>FlOk.back p1 (q W2 σ2 H2 (p1.trans p2 hR))⟩)
  |false=>
   rw[if_neg Bool.false_ne_true] at e2
   rw[jo1] at e2
   obtain⟨⟨r,ρ'⟩,e3,e4⟩:=e2
   rw[jo1] at e4
   obtain⟨k,e5,e6⟩:=e4
   refine zyb ⟨W,ρ,r,ρ',k,p1.r,e3,e5,fun H2 p2=>?_⟩
   have p02:=p1.trans p2 hR
   cases k with
   |true=>rw[if_pos rfl] at e6;exact zwi ⟨W,ρ',y,p02.r,e6,fun W3 σ3 H3 p3=>FlOk.back p02 (q W3 σ3 H3 (p02.trans p3 hR))⟩
   |false=>rw[if_neg Bool.false_ne_true] at e6;exact zyb ⟨W,ρ',y,p02.r,e6,fun W3 σ3 H3 p3=>FlOk.back p02 (q W3 σ3 H3 (p02.trans p3 hR))⟩
end
end L2.LW
set_option maxHeartbeats 4000000
namespace L2.LW
open PySem PySem.Spec PyProof.Rows
noncomputable def swB(sc scope:Scope)(y:Str)(l1 l2:Nat):Bool:=(if sc.kind.isAnnotationScope then ScopeKind.function else sc.kind)== .function&&sc.names.lookup y==some .local&&l1==l2&& !(scope.names.any fun (n,k)=>n==y&&(k== .local||k== .cell))
theorem zny{env:PySem.Env}{sc scope:Scope}{elt:Expr}{gens:List Comprehension}{y:Str}{py pos:Pos}{l:Nat}{b:Bool}(hs:env.scope=sc)(h:swB sc scope y py.line pos.line=b):
  swapsWith (.ListComp elt gens scope pos) (some (.Name y py)) l env=pure b:=by
 subst hs;subst h;rfl
theorem znz{K:PySem.W.Frag}{W:Addr->Prop}{ρ:LW.Env}{σ:St}{H:Hp}(r:R K W ρ σ H)(j:Nat): ∃W',SPost K W ρ σ H W' (zqu ρ j) σ H:=by
 unfold zqu
 split
 ·rename_i d h
  obtain⟨a,o,h1,_⟩:=r.own j _ d h rfl
  exact⟨_,(zdM r h h1).1⟩
 ·exact⟨W,.same r (.refl H)⟩
theorem zk3{K:PySem.W.Frag}{σ:St}{H:Hp}: ∀(js:List Nat) {W:Addr->Prop} {ρ:LW.Env},R K W ρ σ H->∃W',SPost K W ρ σ H W' (js.foldl zqu ρ) σ H
 |[],W,ρ,r=>⟨W,.same r (.refl H)⟩
 |j::js,W,ρ,r=>by
  obtain⟨W1,p1⟩:=znz r j
  obtain⟨W2,p2⟩:=zk3 js p1.r
  exact⟨W2,p1.trans p2 r⟩
section
variable {X:Cx} {fn:Nat->List D->Option SV} {fa:Nat->List D->Option Ans} {fuel:Nat} {st:Stmt} {s:S}
theorem zud(js:List Nat)(h:IS X (exS fa fuel s) st):IS X (exS fa fuel (.frz js s)) st:=
 .mk <| h.h.imp fun D σ H zz3=>by
  obtain⟨W,ρ,x,hR,hx,q⟩:=zz3
  simp only[ztX] at hx
  obtain⟨W1,p1⟩:=zk3 js hR
  exact⟨W1,_,x,p1.r,hx,fun W2 σ2 H2 p2=>FlOk.back p1 (q W2 σ2 H2 (p1.trans p2 hR))⟩
theorem zeV: ∀(r:List Int) (n:Int),(∀x∈n::r,x<=r.foldl max n)/\r.foldl max n∈n::r
 |[],n=>by simp
 |x::r,n=>by
  obtain⟨h1,h2⟩:=zeV r (max n x)
  rw[List.foldl_cons]
  refine⟨fun y hy=>?_,?_⟩
  ·have h0:=h1 (max n x) List.mem_cons_self
   rcases List.mem_cons.mp hy with rfl|hy
   ·omega
   ·rcases List.mem_cons.mp hy with rfl|hy
    ·omega
    ·exact h1 y (List.mem_cons_of_mem _ hy)
  ·rcases List.mem_cons.mp h2 with e|e
   ·rw[e]
    rcases Int.le_total n x with q|q
    ·rw[Int.max_eq_right q];simp
    ·rw[Int.max_eq_left q];simp
   ·exact List.mem_cons_of_mem _ (List.mem_cons_of_mem _ e)
theorem zkg{its:List Value}{ns:List Int}(hi:IntsAre its ns): ∃ps:List (Int×Tok),its=ps.map (fun p=>Value.int p.1 p.2)/\ns=ps.map (·.1):=by
 induction hi with
 |nil=>exact⟨[],rfl,rfl⟩
 |cons n t h ih=>
  obtain⟨ps,e1,e2⟩:=ih
  exact⟨(n,t)::ps,by rw[e1];rfl,by rw[e2];rfl⟩
theorem znA{its:List Value}{ns:List Int}(hi:IntsAre its ns): ∃xs:Array (Int×Tok),its.toArray=intItems xs/\xs.size=ns.length/\∀i,(h:i<ns.length)->numAt xs i=ns[i]:=by
 obtain⟨ps,rfl,rfl⟩:=zkg hi
 refine⟨ps.toArray,by simp[intItems],by simp,fun i h=>?_⟩
 have h':i<ps.length:=by simpa using h
 simp[numAt,h']
theorem znB(hc:X.calm=true):CallR X (.builtin "max") (VR X.K (zai .maxL)):=by
 rintro pins s σ H xs us Q I rv ⟨W,ds,r,wf,hs,hf,q⟩
 replace hf:zpf ds=some r:=hf
 unfold zpf at hf
 split at hf
 ·rename_i l
  rw[jo1] at hf
  obtain⟨ns,e1,hf⟩:=hf
  cases ns with
  |nil=>cases hf
  |cons n ns=>
   cases hf
   cases hs with
   |cons h1 t=>
    cases t
    obtain⟨p,ys,rfl,hp,rp⟩:=h1.lst
    have ey:=rp.ofInts e1
    subst ey
    obtain⟨u,rfl,ru⟩:=zhf rv
    cases ru
    obtain⟨its,rv',pl,hz⟩:=I.list hp
    obtain⟨xs,x1,x2,x3⟩:=znA (zbI rv')
    have hpl:=pl.isList
    rw[x1] at hpl
    refine max_intList (I.ok.hd hc) hpl (by rw[x2];simp) fun v h' tk hv hk=>?_
    obtain⟨t,rfl⟩:=intItems_at hv
    obtain⟨g1,g2⟩:=argBest_gt (numAt xs) (xs.size-1)
    have hlen:xs.size-1=ns.length:=by rw[x2];simp
    rw[hlen] at g1 g2⊢
    generalize argBest (fun i j=>decide (numAt xs i>numAt xs j)) ns.length=b at g1 g2⊢
    have eb:numAt xs b=ns.foldl max n:=by
     obtain⟨m1,m2⟩:=zeV ns n
     have hb:b<(n::ns).length:=by simp;omega
     obtain⟨j,hj,ej⟩:=List.getElem_of_mem m2
     have q1:=m1 _ (List.getElem_mem hb)
     have q2:=g2 j (by simp at hj;omega)
     rw[x3 j hj,ej] at q2
     rw[x3 b hb] at q2⊢
     omega
    rw[eb]
    exact⟨.int _,H,I.kept (t':=tk) hk,⟨_,rfl⟩,q _ H (.refl H) (.val (.int _))⟩
 ·cases hf
end
end L2.LW
set_option maxHeartbeats 4000000
namespace L2.LW
open PySem PySem.W PyProof.Rows
section
variable {n:Nat} {r:Nat->Int} {cmp:Nat->Nat->(Bool->Shared->Prop)->Shared->Prop} {I:Shared->Prop}
noncomputable def kk(r:Nat->Int)(p:Array Nat)(i:Nat):Int:=r (p.getD i 0)
structure Pm (n:Nat)(r:Nat->Int)(p:Array Nat):Prop where
 perm:p.Perm (List.range n).toArray
 size:p.size=n
 lt: ∀i,i<n->p.getD i 0<n
 inj: ∀i j,i<n->j<n->i≠j->kk r p i≠kk r p j
theorem Pm.of{p:Array Nat}(hr: ∀i j,i<n->j<n->i≠j->r i≠r j)(h:p.Perm (List.range n).toArray):Pm n r p:=by
 have hs:p.size=n:=by have:=h.size_eq;simpa using this
 have hl:p.toList.Perm (List.range n):=Array.perm_iff_toList_perm.mp h
 have hlt: ∀i,i<n->p.getD i 0<n:=fun i hi=>by
  have hi':i<p.size:=by omega
  have:p[i]∈p.toList:=by simp
  have:=hl.mem_iff.mp this
  rw[List.mem_range] at this
  simpa [Array.getD,hi'] using this
 have hnd:p.toList.Nodup:=hl.nodup_iff.mpr List.nodup_range
 refine⟨h,hs,hlt,fun i j hi hj ne=>hr _ _ (hlt i hi) (hlt j hj) fun e=>ne ?_⟩
 have hi':i<p.size:=by omega
 have hj':j<p.size:=by omega
 simp only[Array.getD,hi',hj',dif_pos] at e
 have e':p.toList[i]'(by simpa using hi')=p.toList[j]'(by simpa using hj'):=by simpa using e
 exact (List.getElem_inj hnd).mp e'
noncomputable def Up(r:Nat->Int)(p:Array Nat)(k:Nat):Prop:=∀i j,i<j->j<k->kk r p i<kk r p j
noncomputable def Dn(r:Nat->Int)(p:Array Nat)(k:Nat):Prop:=∀i j,i<j->j<k->kk r p j<kk r p i
theorem Up.one{p:Array Nat}{k:Nat}(h:k<=1):Up r p k:=fun i j h1 h2=>by omega
theorem Dn.one{p:Array Nat}{k:Nat}(h:k<=1):Dn r p k:=fun i j h1 h2=>by omega
theorem Up.next{p:Array Nat}{k:Nat}(h:Up r p k)(hk:1<=k)(e:kk r p (k-1)<kk r p k):Up r p (k+1):=fun i j h1 h2=>by
 by_cases hj:j=k
 ·subst hj
  by_cases hi:i=j-1
  ·rw[hi];exact e
  ·exact Int.lt_trans (h i (j-1) (by omega) (by omega)) e
 ·exact h i j h1 (by omega)
theorem Dn.next{p:Array Nat}{k:Nat}(h:Dn r p k)(hk:1<=k)(e:kk r p k<kk r p (k-1)):Dn r p (k+1):=fun i j h1 h2=>by
 by_cases hj:j=k
 ·subst hj
  by_cases hi:i=j-1
  ·rw[hi];exact e
  ·exact Int.lt_trans e (h i (j-1) (by omega) (by omega))
 ·exact h i j h1 (by omega)
theorem Pm.lt'{p:Array Nat}(P:Pm n r p){i j:Nat}(hi:i<n)(hj:j<n)(ne:i≠j)(h: ¬kk r p i<kk r p j):kk r p j<kk r p i:=by
 have:=P.inj i j hi hj ne
 omega
variable (hc: ∀i j C s,i<n->j<n->I s->(∀s',I s'->C (decide (r i<r j)) s')->cmp i j C s)
include hc
theorem znC{p:Array Nat}(P:Pm n r p){Q:Nat->Shared->Prop}: ∀(f m:Nat) (s:Shared),1<=m->m+f=n->I s->Up r p m->(∀k s',I s'->m<=k->k<=n->Up r p k->(k=n\/kk r p k<kk r p (k-1))->(k=m\/kk r p m>kk r p (m-1))->Q k s')->(kas_asc p f m).kasWp cmp Q s
 |0,m,s,h1,h2,hI,hu,q=>q m s hI (Nat.le_refl _) (by omega) hu (.inl (by omega)) (.inl rfl)
 |f+1,m,s,h1,h2,hI,hu,q=>by
  refine hc _ _ _ s (P.lt m (by omega)) (P.lt (m-1) (by omega)) hI fun s' hI'=>?_
  by_cases h:kk r p m<kk r p (m-1)
  ·have e:decide (r (p.getD m 0)<r (p.getD (m-1) 0))=true:=decide_eq_true h
   simp only[e,if_true]
   exact q m s' hI' (Nat.le_refl _) (by omega) hu (.inr h) (.inl rfl)
  ·have e:decide (r (p.getD m 0)<r (p.getD (m-1) 0))=false:=decide_eq_false h
   simp only[e,Bool.false_eq_true,if_false]
   have hlt:=P.lt' (by omega) (by omega) (by omega) h
   exact znC P f (m+1) s' (by omega) (by omega) hI' (hu.next h1 hlt) fun k s'' hs h3 h4 h5 h6 _=>q k s'' hs (by omega) h4 h5 h6 (.inr hlt)
theorem znD{p:Array Nat}(P:Pm n r p){Q:Array Nat×Nat×Nat->Shared->Prop}: ∀(f m:Nat) (s:Shared),1<=m->m+f=n->I s->Dn r p m->(∀k s',I s'->m<=k->k<=n->Dn r p k->Q (p,k,0) s')->(kas_desc f p m 0).kasWp cmp Q s
 |0,m,s,h1,h2,hI,hu,q=>q m s hI (Nat.le_refl _) (by omega) hu
 |f+1,m,s,h1,h2,hI,hu,q=>by
  refine hc _ _ _ s (P.lt m (by omega)) (P.lt (m-1) (by omega)) hI fun s' hI'=>?_
  by_cases h:kk r p m<kk r p (m-1)
  ·have e:decide (r (p.getD m 0)<r (p.getD (m-1) 0))=true:=decide_eq_true h
   simp only[e,if_true,Nat.lt_irrefl,if_false,gt_iff_lt]
   exact znD P f (m+1) s' (by omega) (by omega) hI' (hu.next h1 h) fun k s'' hs h3 h4 h5=>q k s'' hs (by omega) h4 h5
  ·have e:decide (r (p.getD m 0)<r (p.getD (m-1) 0))=false:=decide_eq_false h
   simp only[e,Bool.false_eq_true,if_false]
   have hlt:=P.lt' (by omega) (by omega) (by omega) h
   refine hc _ _ _ s' (P.lt (m-1) (by omega)) (P.lt m (by omega)) hI' fun s'' hI''=>?_
   have e2:decide (r (p.getD (m-1) 0)<r (p.getD m 0))=true:=decide_eq_true hlt
   simp only[e2,if_true]
   exact q m s'' hI'' (Nat.le_refl _) (by omega) hu
omit hc in
theorem Pm.rev{p:Array Nat}(hr: ∀i j,i<n->j<n->i≠j->r i≠r j)(P:Pm n r p)(i j:Nat):Pm n r (kas_rev p i j):=Pm.of hr ((mirror_perm p i j _).trans P.perm)
omit hc in
theorem zqK{p:Array Nat}{m k:Nat}(hm:m<=p.size):kk r (kas_rev p 0 m) k=if k<m then kk r p (m-1-k) else kk r p k:=by
 have e:=getElem?_mirror_all (i:=0) hm k
 simp only[Nat.zero_le,true_and,Nat.zero_add] at e
 by_cases h:k<m
 ·rw[if_pos h] at e⊢
  simp only[kk,kas_rev,Array.getD_eq_getD_getElem?,e]
 ·rw[if_neg h] at e⊢
  simp only[kk,kas_rev,Array.getD_eq_getD_getElem?,e]
omit hc in
theorem Dn.rev{p:Array Nat}{m:Nat}(hm:m<=p.size)(h:Dn r p m):Up r (kas_rev p 0 m) m:=fun i j h1 h2=>by
 rw[zqK hm,zqK hm,if_pos (by omega),if_pos h2]
 exact h _ _ (by omega) (by omega)
theorem zpz(hr: ∀i j,i<n->j<n->i≠j->r i≠r j){p:Array Nat}(P:Pm n r p){m:Nat}{s:Shared}{Q:Nat×Array Nat->Shared->Prop}(h1:1<=m)(h2:m<=n)(hI:I s)(hd:Dn r p m)
  (q: ∀k p' s',I s'->k<=n->1<=k->Pm n r p'->Up r p' k->Q (k,p') s'):(kas_tail3 m n p).kasWp cmp Q s:=by
 unfold kas_tail3
 rw[KasT.kasWp_bind]
 have P':=P.rev hr 0 m
 refine znC hc P' (n-m) m s h1 (by omega) hI (hd.rev (by rw[P.size];exact h2)) fun k s' hs h3 h4 h5 _ _=>?_
 exact q k _ s' hs h4 (by omega) P' h5
theorem zkh(hr: ∀i j,i<n->j<n->i≠j->r i≠r j){p:Array Nat}(P:Pm n r p){s:Shared}{Q:Nat×Array Nat->Shared->Prop}(h2:2<=n)(hI:I s)(hd:kk r p 1<kk r p 0)
  (q: ∀k p' s',I s'->k<=n->1<=k->Pm n r p'->Up r p' k->Q (k,p') s'):(kas_descPart 1 n p).kasWp cmp Q s:=by
 unfold kas_descPart
 rw[KasT.kasWp_bind]
 refine znD hc P (n-2) 2 s (by omega) (by omega) hI ((Dn.one (k:=1) (Nat.le_refl _)).next (Nat.le_refl _) hd) fun k s' hs h3 h4 h5=>?_
 simp only[Nat.lt_irrefl,if_false,gt_iff_lt]
 exact zpz hc hr P (by omega) h4 hs h5 q
theorem zpA(hr: ∀i j,i<n->j<n->i≠j->r i≠r j){p:Array Nat}(P:Pm n r p){s:Shared}{Q:Nat×Array Nat->Shared->Prop}(h2:2<=n)(hI:I s)
  (q: ∀k p' s',I s'->k<=n->1<=k->Pm n r p'->Up r p' k->Q (k,p') s'):(kas_count n p).kasWp cmp Q s:=by
 unfold kas_count
 rw[KasT.kasWp_bind]
 refine znC hc P (n-1) 1 s (Nat.le_refl _) (by omega) hI (Up.one (Nat.le_refl _)) fun k s' hs h3 h4 h5 h6 h7=>?_
 by_cases hk:k=n
 ·subst hk
  simp only[beq_self_eq_true,if_true]
  exact q _ p s' hs (Nat.le_refl _) h3 P h5
 ·have e:(k==n)=false:=by simpa using hk
  simp only[e,Bool.false_eq_true,if_false]
  by_cases h1:k>1
  ·simp only[h1,if_true]
   refine hc _ _ _ s' (P.lt 0 (by omega)) (P.lt (k-1) (by omega)) hs fun s'' hs'=>?_
   have e2:decide (r (p.getD 0 0)<r (p.getD (k-1) 0))=true:=decide_eq_true (h5 0 (k-1) (by omega) (by omega))
   simp only[e2,if_true]
   exact q _ p s'' hs' h4 h3 P h5
  ·have ek:k=1:=by omega
   subst ek
   simp only[Nat.lt_irrefl,if_false,gt_iff_lt]
   exact zkh hc hr P h2 hs (h6.resolve_left hk) q
theorem zhC{p:Array Nat}(P:Pm n r p){k:Nat}(hk:k<n){Q:Nat->Shared->Prop}: ∀(f l h:Nat) (s:Shared),h-l<=f->l<=h->h<=k->I s->(∀i,i<l->kk r p i<kk r p k)->(∀i,h<=i->i<k->kk r p k<kk r p i)->Up r p k->
  (∀l s',I s'->l<=k->(∀i,i<l->kk r p i<kk r p k)->(∀i,l<=i->i<k->kk r p k<kk r p i)->Q l s')->(kas_place p k f l h).kasWp cmp Q s
 |0,l,h,s,hf,h1,h2,hI,hl,hh,hu,q=>q l s hI (by omega) hl fun i h3 h4=>hh i (by omega) h4
 |f+1,l,h,s,hf,h1,h2,hI,hl,hh,hu,q=>by
  unfold kas_place
  by_cases hge:l>=h
  ·rw[if_pos hge]
   exact q l s hI (by omega) hl fun i h3 h4=>hh i (by omega) h4
  ·rw[if_neg hge]
   refine hc _ _ _ s (P.lt k hk) (P.lt _ (by omega)) hI fun s' hI'=>?_
   by_cases hm:kk r p k<kk r p ((l+h)/2)
   ·have e:decide (r (p.getD k 0)<r (p.getD ((l+h)/2) 0))=true:=decide_eq_true hm
    simp only[e,if_true]
    refine zhC P hk f l ((l+h)/2) s' (by omega) (by omega) (by omega) hI' hl (fun i h3 h4=>?_) hu q
    by_cases hi:i=(l+h)/2
    ·rw[hi];exact hm
    ·exact Int.lt_trans hm (hu _ _ (by omega) h4)
   ·have e:decide (r (p.getD k 0)<r (p.getD ((l+h)/2) 0))=false:=decide_eq_false hm
    simp only[e,Bool.false_eq_true,if_false]
    have hlt:=P.lt' hk (by omega) (by omega) hm
    refine zhC P hk f ((l+h)/2+1) h s' (by omega) (by omega) h2 hI' (fun i h3=>?_) hh hu q
    by_cases hi:i=(l+h)/2
    ·rw[hi];exact hlt
    ·exact Int.lt_trans (hu i ((l+h)/2) (by omega) (by omega)) hlt
omit hc in
theorem ziT{p:Array Nat}{k d:Nat}(hk:k<p.size)(hd:d<=k)(i:Nat):kk r (bubble p k d) i=if i=k-d then kk r p k else if k-d<i/\i<=k then kk r p (i-1) else kk r p i:=by
 have e:=getElem?_bubble hk d hd i
 by_cases h:i=k-d
 ·rw[if_pos h] at e⊢
  simp only[kk,Array.getD_eq_getD_getElem?,e]
 ·rw[if_neg h] at e⊢
  by_cases h':k-d<i/\i<=k
  ·rw[if_pos h'] at e⊢
   simp only[kk,Array.getD_eq_getD_getElem?,e]
  ·rw[if_neg h'] at e⊢
   simp only[kk,Array.getD_eq_getD_getElem?,e]
theorem zqL(hr: ∀i j,i<n->j<n->i≠j->r i≠r j){Q:Array Nat->Shared->Prop}: ∀(f:Nat) (p:Array Nat) (k:Nat) (s:Shared),1<=k->k+f=n->Pm n r p->I s->Up r p k->(∀p' s',I s'->Pm n r p'->Up r p' n->Q p' s')->(kas_bin f p k).kasWp cmp Q s
 |0,p,k,s,h1,h2,P,hI,hu,q=>q p s hI P (by rw[<-h2];exact hu)
 |f+1,p,k,s,h1,h2,P,hI,hu,q=>by
  unfold kas_bin
  rw[KasT.kasWp_bind]
  have hk:k<n:=by omega
  refine zhC hc P hk k 0 k s (by omega) (Nat.zero_le _) (Nat.le_refl _) hI (fun i h=>by omega) (fun i h3 h4=>by omega) hu fun l s' hI' hl h3 h4=>?_
  have hks:k<p.size:=by rw[P.size];exact hk
  have P':Pm n r (bubble p k (k-l)):=Pm.of hr ((bubble_perm p k _).trans P.perm)
  refine zqL hr f _ (k+1) s' (by omega) (by omega) P' hI' (fun i j hij hj=>?_) q
  rw[ziT hks (by omega),ziT hks (by omega)]
  have ekl:k-(k-l)=l:=by omega
  rw[ekl]
  by_cases hi:i=l
  ·rw[if_pos hi,if_neg (by omega)]
   rw[if_pos (by omega)]
   exact h4 _ (by omega) (by omega)
  ·rw[if_neg hi]
   by_cases hjl:j=l
   ·rw[if_pos hjl,if_neg (by omega)]
    exact h3 i (by omega)
   ·rw[if_neg hjl]
    by_cases hi2:l<i/\i<=k
    ·rw[if_pos hi2,if_pos (by omega)]
     exact hu _ _ (by omega) (by omega)
    ·rw[if_neg hi2]
     by_cases hj2:l<j/\j<=k
     ·rw[if_pos hj2]
      by_cases he:i=j-1
      ·omega
      ·exact hu _ _ (by omega) (by omega)
     ·rw[if_neg hj2]
      exact hu _ _ (by omega) (by omega)
theorem zr2(hr: ∀i j,i<n->j<n->i≠j->r i≠r j){s:Shared}{Q:Array Nat->Shared->Prop}(h2:2<=n)(hI:I s)(q: ∀p s',I s'->Pm n r p->Up r p n->Q p s'):(kas_sort n).kasWp cmp Q s:=by
 unfold kas_sort
 rw[KasT.kasWp_bind]
 have P0:Pm n r (List.toArray (List.range n)):=Pm.of hr (Array.Perm.refl _)
 refine zpA hc hr P0 h2 hI fun k p s' hI' hk h1 P hu=>?_
 by_cases hlt:k<n
 ·simp only[hlt,if_true]
  have e:max k 1=k:=by omega
  rw[e]
  exact zqL hc hr (n-k) p k s' h1 (by omega) P hI' hu q
 ·simp only[hlt,if_false]
  have e:k=n:=by omega
  exact q p s' hI' P (by rw[<-e];exact hu)
end
end L2.LW
set_option maxHeartbeats 4000000
namespace L2.LW
open PySem PySem.Spec PySem.W PyProof.Rows
section
variable {prog:Program} {w:World} {A:Around} {E:Value->Shared->Prop} {s:Shared}
theorem znE{a:Addr}{vs:List Value}{n:Nat}{P:PySem.Fin->Shared->Prop}{κ:SortKind}(ho:s.heap.get? a=some (seqObj "list" vs.toArray n))(h64:vs.length<64){r:Nat->Int}(hr: ∀i j,i<vs.length->j<vs.length->i≠j->r i≠r j)
  (hk:2<=vs.length->∀h' tk,(∀b o,b≠a->s.heap.get? b=some o->h'.get? b=some o)->wpAny (model prog w) A (keyKind' vs.toArray) (fun κ' s'=>κ'=κ/\∃tk',s'={ s with heap:=h',toks:=tk' }) (fun _ _=>False) { s with heap:=h',toks:=tk })
  (hc: ∀i j h' tk (C:Bool->Shared->Prop),i<vs.length->j<vs.length->(∀b o,b≠a->s.heap.get? b=some o->h'.get? b=some o)->(∀tk',C (decide (r i<r j)) { s with heap:=h',toks:=tk' })->
   wpAny (model prog w) A (keyLt' κ (vs.getD i Value.none) (vs.getD j Value.none)) C (fun _ _=>False) { s with heap:=h',toks:=tk })
  (h: ∀p tk,Pm vs.length r p->Up r p vs.length->P (.done (.ret .none)) { s with heap:=sortedHeap s.heap a vs (p.toList.map fun i=>vs.getD i Value.none).toArray,toks:=tk }):
  wpAny (model prog w) A (Builtin.«list.sort» ⟨[.ref a],[]⟩) P E s:=by
 rw[list_sort_plain]
 have ha:a<s.heap.objs.size:=Heap.lt_size ho
 refine wpAny_bind (listItems_at ho rfl ?_)
 refine wpAny_bind (listUpdate_at ho rfl ?_ (by rw[List.size_toArray,sizeLine_eq];omega) (Nat.zero_le _))
 obtain⟨e1,ho1⟩: ∃e1,(s.heap.update a (Obj.mapSeq fun _=> #[])).get? a=some (seqObj "list" #[] e1):=⟨_,get?_update_seq ho (fun _=> #[])⟩
 refine wpAny_bind (seqEpoch_at ho1 rfl ?_)
 refine wpAny_bind (wpAny_newTuple ?_ (by show vs.length<=_;rw[sizeLine_eq];omega))
 refine wpAny_bind (wpAny_newList ?_ (Nat.zero_le _))
 refine wpAny_holding ?_
 have ho6:(((s.heap.update a (Obj.mapSeq fun _=> #[])).push (seqObj "tuple" vs.toArray 0)).push (seqObj "list" #[] 0)).get? a=some (seqObj "list" #[] e1):=by
  rw[Heap.get?_push_ne _ _ _ (by rw[size_push',Heap.size_update];exact Nat.ne_of_lt (Nat.lt_succ_of_lt ha)),Heap.get?_push_ne _ _ _ (by rw[Heap.size_update];exact Nat.ne_of_lt ha)]
  exact ho1
 have keep: ∀b o,b≠a->s.heap.get? b=some o->(((s.heap.update a (Obj.mapSeq fun _=> #[])).push (seqObj "tuple" vs.toArray 0)).push (seqObj "list" #[] 0)).get? b=some o:=fun b o hb e=>
  Heap.get?_push_of_some _ (Heap.get?_push_of_some _ (by rw[Heap.get?_update_ne _ _ _ _ hb];exact e))
 show wpAny (model prog w) A _ P E { s with heap:=((s.heap.update a (Obj.mapSeq fun _=> #[])).push (seqObj "tuple" vs.toArray 0)).push (seqObj "list" #[] 0) }
 dsimp only
 have hsz:vs.toArray.size=vs.length:=by simp
 have hid:Pm vs.length r (List.range vs.length).toArray:=Pm.of hr (Array.Perm.refl _)
 by_cases h2:vs.toArray.size<2
 ·rw[if_pos h2,if_pos h2]
  refine wpAny_bind (wpAny_pure ?_)
  rw[StateT.run_pure]
  refine wpAny_bind (wpAny_pure ?_)
  dsimp only
  refine wpAny_bind (seqEpoch_at ho6 rfl ?_)
  refine wpAny_bind (listUpdate_at ho6 rfl ?_ (Nat.zero_le _) (by rw[Array.size_map];show (pairsOf vs).size<=_;rw[pairsOf_size,sizeLine_eq];omega))
  simp only[bne_self_eq_false,Bool.false_eq_true,if_false]
  have hh:=h (List.range vs.length).toArray s.toks hid (Up.one (by omega))
  have e:((List.range vs.length).toArray.toList.map fun i=>vs.getD i Value.none).toArray=(arrOf (SortSt.mk' general' (vs.toArray.zip vs.toArray) #[] 7 none)).map (·.2):=by
   show _=(vs.toArray.zip vs.toArray).map (·.2)
   apply Array.toList_inj.mp
   simp
   apply List.ext_getElem
   ·simp
   ·intro i h1 h2;simp at h1;simp[h1]
  rw[e] at hh
  exact wpAny_pure hh
 ·rw[if_neg h2,if_neg h2]
  rw[hsz] at h2
  have h2':2<=vs.length:=by omega
  refine wpAny_bind (wpAny_mono (hk h2' _ s.toks keep) (fun κ' s0 ⟨hκ,tk0,hs0⟩=>?_) fun _ _ x=>x.elim)
  subst hκ hs0
  refine wpAny_bind (wpAny_mono (kat_run (ks:=vs) (Q:=fun st' s'=>∃(p:Array Nat) (tk:Nat),Pm vs.length r p/\Up r p vs.length/\arrOf st'=p.map (kas_item (vs.toArray.zip vs.toArray))/\failedOf st'=Option.none/\
    s'={ s with heap:=((s.heap.update a (Obj.mapSeq fun _=> #[])).push (seqObj "tuple" vs.toArray 0)).push (seqObj "list" #[] 0),toks:=tk })
   (G:=fun p s'=>∃tk,Pm vs.length r p/\Up r p vs.length/\s'={ s with heap:=((s.heap.update a (Obj.mapSeq fun _=> #[])).push (seqObj "tuple" vs.toArray 0)).push (seqObj "list" #[] 0),toks:=tk })
   rfl h2' h64 (fun p st' s' a1 a2 a3 ⟨tk,a4,a5,a6⟩=>⟨p,tk,a4,a5,a2,a3,a6⟩) ?_) ?_ fun _ _ e=>e)
  ·exact zr2 (I:=fun s'=>∃tk,s'={ s with heap:=((s.heap.update a (Obj.mapSeq fun _=> #[])).push (seqObj "tuple" vs.toArray 0)).push (seqObj "list" #[] 0),toks:=tk })
    (fun i j C s' hi hj zz6 q=>by
     obtain⟨tk,hs'⟩:=zz6
     subst hs'
     exact hc i j _ tk C hi hj keep fun tk'=>q _ ⟨tk',rfl⟩) hr h2' ⟨tk0,rfl⟩ fun p s' ⟨tk,hs'⟩ hp hu=>⟨tk,hp,hu,hs'⟩
  ·rintro⟨⟨⟩,st'⟩ s' ⟨p,tk,hp,hu,har,hf,rfl⟩
   dsimp only
   have hout:=kat_snds (ks:=vs) (vs:=vs) rfl har
   rw[hout]
   refine wpAny_bind (seqEpoch_at ho6 rfl ?_)
   refine wpAny_bind (listUpdate_at ho6 rfl ?_ (Nat.zero_le _) (by rw[List.size_toArray,List.length_map,Array.length_toList,hp.size,sizeLine_eq];omega))
   rw[hf]
   simp only[bne_self_eq_false,Bool.false_eq_true,if_false]
   exact wpAny_pure (h p tk hp hu)
theorem zg0{l:Addr}{vs:List Value}{Q:Value->Shared->Prop}{κ:SortKind}(hl:s.heap.IsList l vs.toArray)(h64:vs.length<64){r:Nat->Int}(hr: ∀i j,i<vs.length->j<vs.length->i≠j->r i≠r j)
  (hk:2<=vs.length->∀h' tk,(∀b o,s.heap.get? b=some o->h'.get? b=some o)->wpAny (model prog w) A.in1.in1 (keyKind' vs.toArray) (fun κ' s'=>κ'=κ/\∃tk',s'={ s with heap:=h',toks:=tk' }) (fun _ _=>False) { s with heap:=h',toks:=tk })
  (hc: ∀i j h' tk (C:Bool->Shared->Prop),i<vs.length->j<vs.length->(∀b o,s.heap.get? b=some o->h'.get? b=some o)->(∀tk',C (decide (r i<r j)) { s with heap:=h',toks:=tk' })->
   wpAny (model prog w) A.in1.in1 (keyLt' κ (vs.getD i Value.none) (vs.getD j Value.none)) C (fun _ _=>False) { s with heap:=h',toks:=tk })
  (h: ∀p tk,Pm vs.length r p->Up r p vs.length->Q (.ref (s.heap.objs.size+1)) { s with heap:=sortedAll s.heap vs (p.toList.map fun i=>vs.getD i Value.none).toArray,toks:=tk }):
  wpAny (model prog w) A (call (.builtin "sorted") [.ref l]) Q E s:=by
 refine Calls.call_function_entry kind_sorted plain_sorted entry_sorted (args_sorted1 _) ?_
 unfold Builtin.«sorted»
 refine wpAny_bind (m:=checkCount "sorted" 1 1 _) (wpAny_pure ?_)
 refine wpAny_bind (collect_list hl ?_ (by rw[sizeLine_eq];omega))
 refine wpAny_bind (wpAny_newList ?_ (by rw[sizeLine_eq];omega))
 have hsz:((s.heap.push (seqObj "list" #[] 0)).update s.heap.objs.size (Obj.mapSeq (· ++vs.toArray))).objs.size=s.heap.objs.size+1:=by
  rw[Heap.size_update,size_push']
 have hoL:(((s.heap.push (seqObj "list" #[] 0)).update s.heap.objs.size (Obj.mapSeq (· ++vs.toArray))).push (seqObj "list" vs.toArray 0)).get? (s.heap.objs.size+1)=some (seqObj "list" vs.toArray 0):=by
  rw[<-hsz];exact Heap.get?_push_size _ rfl
 have keep: ∀b o,s.heap.get? b=some o->(((s.heap.push (seqObj "list" #[] 0)).update s.heap.objs.size (Obj.mapSeq (· ++vs.toArray))).push (seqObj "list" vs.toArray 0)).get? b=some o:=fun b o q=>by
  have hlt:b<s.heap.objs.size:=Heap.lt_size q
  rw[Heap.get?_push_ne _ _ _ (by rw[hsz];exact Nat.ne_of_lt (Nat.lt_succ_of_lt hlt)),Heap.get?_update_ne _ _ _ _ (Nat.ne_of_lt hlt),Heap.get?_push_ne _ _ _ (Nat.ne_of_lt hlt)]
  exact q
 have nea: ∀b o,s.heap.get? b=some o->b≠s.heap.objs.size+1:=fun b o e=>Nat.ne_of_lt (Nat.lt_succ_of_lt (Heap.lt_size e))
 show wpAny _ _ _ _ _ { s with heap:=((s.heap.push (seqObj "list" #[] 0)).update s.heap.objs.size (Obj.mapSeq (· ++vs.toArray))).push (seqObj "list" vs.toArray 0) }
 rw[hsz]
 refine wpAny_bind (wpAny_holding (wpAny_call_entry slot_list_sort ⟨_,hoL,rfl⟩ entry_list_sort (znE (κ:=κ) (r:=r) hoL h64 hr (fun h2 h' tk hk'=>?_) (fun i j h' tk C hi hj hk' q=>?_) fun p tk hp hu=>⟨_,rfl,?_⟩) (args_list_sort _)))
 ·exact hk h2 h' tk fun b o e=>hk' b o (nea b o e) (keep b o e)
 ·exact hc i j h' tk C hi hj (fun b o e=>hk' b o (nea b o e) (keep b o e)) q
 ·exact wpAny_pure ⟨_,rfl,h p tk hp hu⟩
end
theorem za4: ∀x:List Int,LW.lexLt x x=false
 |[]=>rfl
 |a::x=>by rw[LW.lexLt,if_pos rfl];exact za4 x
theorem zb8: ∀{x y z:List Int},LW.lexLt x y=true->LW.lexLt y z=true->LW.lexLt x z=true
 |x,[],_,h,_=>by cases x<;>simp[LW.lexLt] at h
 |_,_::_,[],_,h=>by cases h
 |[],_::_,_::_,_,_=>rfl
 |a::x,b::y,c::z,h1,h2=>by
  rw[LW.lexLt] at h1 h2⊢
  by_cases e1:a=b
  ·by_cases e2:b=c
   ·rw[if_pos e1] at h1
    rw[if_pos e2] at h2
    rw[if_pos (e1.trans e2)]
    exact zb8 h1 h2
   ·rw[if_neg e2,decide_eq_true_iff] at h2
    rw[if_neg (by omega),decide_eq_true_iff]
    omega
  ·rw[if_neg e1,decide_eq_true_iff] at h1
   by_cases e2:b=c
   ·rw[if_neg (by omega),decide_eq_true_iff];omega
   ·rw[if_neg e2,decide_eq_true_iff] at h2
    rw[if_neg (by omega),decide_eq_true_iff];omega
theorem zcZ: ∀{x y:List Int},x≠y->LW.lexLt x y=true\/LW.lexLt y x=true
 |[],[],h=>absurd rfl h
 |[],_::_,_=>.inl rfl
 |_::_,[],_=>.inr rfl
 |a::x,b::y,h=>by
  rw[LW.lexLt,LW.lexLt]
  by_cases e:a=b
  ·rw[if_pos e,if_pos e.symm]
   exact zcZ fun z=>h (by rw[e,z])
  ·rw[if_neg e,if_neg (fun z=>e z.symm),decide_eq_true_iff,decide_eq_true_iff]
   omega
noncomputable abbrev zki(x y:List Int):Prop:=LW.lexLt x y=true
theorem zfM(x:List Int): ∀l,(zrw x l).Perm (x::l)
 |[]=>.refl _
 |y::r=>by
  unfold zrw
  split
  ·exact .refl _
  ·exact ((zfM x r).cons y).trans (.swap x y r)
theorem zb4: ∀l,(zey l).Perm l
 |[]=>.refl _
 |x::r=>(zfM x _).trans ((zb4 r).cons x)
theorem znF{x:List Int}: ∀{l:List (List Int)},l.Pairwise zki->(∀y∈l,x≠y)->(zrw x l).Pairwise zki
 |[],_,_=>by simp[zrw]
 |y::r,h,hn=>by
  rw[List.pairwise_cons] at h
  unfold zrw
  split
  ·rename_i hx
   rw[List.pairwise_cons,List.pairwise_cons]
   refine⟨fun z hz=>?_,h⟩
   rcases List.mem_cons.mp hz with rfl|hz
   ·exact hx
   ·exact zb8 hx (h.1 z hz)
  ·rename_i hx
   have hyx:zki y x:=(zcZ (hn y List.mem_cons_self)).resolve_left hx
   rw[List.pairwise_cons]
   refine⟨fun z hz=>?_,znF h.2 fun z hz=>hn z (List.mem_cons_of_mem _ hz)⟩
   rcases List.mem_cons.mp ((zfM x r).mem_iff.mp hz) with rfl|hz
   ·exact hyx
   ·exact h.1 z hz
theorem zd5: ∀{l:List (List Int)},l.Nodup->(zey l).Pairwise zki
 |[],_=>List.Pairwise.nil
 |x::r,h=>by
  rw[List.nodup_cons] at h
  exact znF (zd5 h.2) fun y hy e=>h.1 ((zb4 r).mem_iff.mp (e▸hy))
theorem zkj: ∀{l m:List (List Int)},l.Perm m->l.Pairwise zki->m.Pairwise zki->l=m
 |[],m,h,_,_=>(List.Perm.nil_eq h)
 |x::l,[],h,_,_=>by have:=h.length_eq;simp at this
 |x::l,y::m,h,h1,h2=>by
  rw[List.pairwise_cons] at h1 h2
  have e:x=y:=by
   rcases List.mem_cons.mp (h.mem_iff.mp List.mem_cons_self) with e|hx
   ·exact e
   ·rcases List.mem_cons.mp (h.mem_iff.mpr List.mem_cons_self) with e|hy
    ·exact e.symm
    ·have q1:=h2.1 x hx
     have q2:=h1.1 y hy
     have:=zb8 q1 q2
     rw[za4] at this;cases this
  subst e
  rw[zkj (List.Perm.cons_inv h) h1.2 h2.2]
noncomputable def rkT(ks:List (List Int))(x:List Int):Int:=((ks.filter fun y=>LW.lexLt y x).length:Nat)
theorem zg1{ks:List (List Int)}{x y:List Int}(hx:x∈ks)(h:zki x y):rkT ks x<rkT ks y:=by
 unfold rkT
 have key: ∀l:List (List Int),(l.filter fun z=>LW.lexLt z x).length<=(l.filter fun z=>LW.lexLt z y).length/\(x∈l->(l.filter fun z=>LW.lexLt z x).length<(l.filter fun z=>LW.lexLt z y).length):=by
  intro l
  induction l with
  |nil=>exact⟨Nat.le_refl _,fun z=>by cases z⟩
  |cons z l ih=>
   rw[List.filter_cons,List.filter_cons]
   by_cases h1:LW.lexLt z x=true
   ·have h2:=zb8 h1 h
    rw[if_pos h1,if_pos h2]
    simp only[List.length_cons]
    refine⟨by omega,fun hz=>?_⟩
    rcases List.mem_cons.mp hz with rfl|hz
    ·rw[za4] at h1;cases h1
    ·have:=ih.2 hz;omega
   ·rw[if_neg h1]
    by_cases h2:LW.lexLt z y=true
    ·rw[if_pos h2]
     simp only[List.length_cons]
     exact⟨by omega,fun _=>by omega⟩
    ·rw[if_neg h2]
     refine⟨ih.1,fun hz=>?_⟩
     rcases List.mem_cons.mp hz with rfl|hz
     ·exact absurd h h2
     ·exact ih.2 hz
 have:=(key ks).2 hx
 omega
theorem zhD{ks:List (List Int)}{x y:List Int}(hx:x∈ks)(hy:y∈ks)(hne:x≠y):decide (rkT ks x<rkT ks y)=LW.lexLt x y:=by
 rcases zcZ hne with h|h
 ·have:=zg1 hx h
  rw[h,decide_eq_true_iff];exact this
 ·have h1:=zg1 hy h
  have h2:LW.lexLt x y=false:=by
   cases e:LW.lexLt x y with
   |false=>rfl
   |true=>have:=zb8 e h;rw[za4] at this;cases this
  rw[h2,decide_eq_false_iff_not];omega
section
variable {X:Cx} {pins:List (Addr×Obj)} {σ:St} {H:Hp} {s:Shared} {W:Addr->Prop}
noncomputable def zcQ(h:Heap)(v:Value)(k:List Int):Prop:=∃a o its n,v= .ref a/\h.get? a=some o/\o.cls= .type "tuple"/\o.data= .seq its n/\IntsAre its.toList k
theorem zkk(I:Inv X pins σ H s): ∀{ds:List D} {xs:List V} {us:List Value} {ks:List (List Int)},Reps X.K W H ds xs->Vals xs us->tups? ds=some ks->Paired (zcQ s.heap) us ks
 |_,_,_,ks,.nil,r,e=>by cases r;simp[tups?] at e;subst e;exact .nil
 |_,_,_,ks,.cons h t,r,e=>by
  cases r with
  |cons r1 r2=>
   cases h with
   |tup hH rp=>
    simp only[tups?,jo1,jo2] at e
    obtain⟨k,e1,ks',e2,rfl⟩:=e
    refine .cons ?_ (zkk I t r2 e2)
    cases r1
    obtain⟨its,rv,⟨o,ho,hc,n,hd⟩,_⟩:=I.tuple (.of hH)
    rw[rp.ofInts e1] at rv
    exact⟨_,o,its.toArray,n,rfl,ho,hc,hd,by simpa using zbI rv⟩
   |_=>simp[tups?] at e
theorem zc0{α β:Type}{F:α->β->Prop}: ∀{xs:List α} {ys:List β} {i:Nat},Paired F xs ys->i<xs.length->∃x y,xs[i]? =some x/\ys[i]? =some y/\F x y
 |_,_,_,.nil,h=>by simp at h
 |_,_,0,.cons h _,_=>⟨_,_,rfl,rfl,h⟩
 |_,_,i+1,.cons _ t,h=>by
  obtain⟨x,y,h1,h2,h3⟩:=zc0 (i:=i) t (by simpa using h)
  exact⟨x,y,by simpa using h1,by simpa using h2,h3⟩
theorem zg2{h:Heap}: ∀{us:List Value} {ks:List (List Int)},Paired (zcQ h) us ks->(∀k∈ks,k≠[])->∃fs,KatTups h us fs/\fs.length=us.length/\∀v∈fs,∃i t,v=Value.int i t
 |_,_,.nil,_=>⟨[],.nil,rfl,fun _ z=>by cases z⟩
 |_,_,.cons hx t,hn=>by
  obtain⟨fs,h1,h2,h3⟩:=zg2 t fun k hk=>hn k (List.mem_cons_of_mem _ hk)
  obtain⟨a,o,its,n,rfl,ho,hc,hd,hi⟩:=hx
  have hne:=hn _ List.mem_cons_self
  cases hi':its.toList with
  |nil=>rw[hi'] at hi;cases hi;exact absurd rfl hne
  |cons v r=>
   rw[hi'] at hi
   cases hi with
   |cons i t' hr=>
    refine⟨.int i t'::fs,.cons ho hc hd (by rw[<-Array.getElem?_toList,hi'];rfl) h1,by simp[h2],fun v hv=>?_⟩
    rcases List.mem_cons.mp hv with rfl|hv
    ·exact⟨_,_,rfl⟩
    ·exact h3 v hv
theorem zfN{prog:Program}{w:World}{A:Around}{Q:Bool->Shared->Prop}{s:Shared}{fin:Bool}: ∀{us vs:List Value} {x y:List Int} (i:Nat),IntsAre us x->IntsAre vs y->(fin=decide (us.length<vs.length))->Q (LW.lexLt x y) s->KatLex prog w A true fin Q (us.zip vs) i s
 |_,_,_,_,i,.nil,hv,hf,q=>by
  cases hv with
  |nil=>subst hf;exact kat_nil q
  |cons j t hv=>subst hf;exact kat_nil q
 |_,_,_,_,i,.cons a t hu,hv,hf,q=>by
  cases hv with
  |nil=>subst hf;exact kat_nil q
  |cons b t' hv=>
   refine kat_cons (wpAny_eqBool_int ?_)
   by_cases e:a=b
   ·subst e
    have:(a==a)=true:=by simp
    rw[this]
    refine kat_yes (zfN (i+1) hu hv (by rw[hf];simp) ?_)
    rw[LW.lexLt,if_pos rfl] at q
    exact q
   ·have:(a==b)=false:=by simpa using e
    rw[this]
    refine kat_no ?_
    rw[LW.lexLt,if_neg e] at q
    cases i with
    |zero=>exact oneLt_int q
    |succ i=>
     have e2:(true&&(i+1==0))=false:=rfl
     rw[e2]
     exact kat_one _ _ (lt_int q)
theorem zaQ{α:Type}{l:List α}{i:Nat}{x d:α}(h:l[i]? =some x):l.getD i d=x:=by
 rw[List.getD_eq_getElem?_getD,h];rfl
theorem ziU{xs:List V}{us:List Value}(r:Vals xs us)(p:List Nat)(hp: ∀i∈p,i<us.length):Vals (p.map fun i=>xs.getD i .non) (p.map fun i=>us.getD i Value.none):=by
 induction p with
 |nil=>exact .nil
 |cons i p ih=>
  refine .cons ?_ (ih fun j hj=>hp j (List.mem_cons_of_mem _ hj))
  have hi:=hp i List.mem_cons_self
  have hl:=r.length
  obtain⟨u,h1,h2⟩:=r.get (i:=i) (x:=xs[i]'(by omega)) (by simp)
  show RelV (xs.getD i .non) (us.getD i Value.none)
  rw[zaQ h1,zaQ (x:=xs[i]'(by omega)) (by simp)]
  exact h2
theorem ziV{ds:List D}{xs:List V}(r:Reps X.K W H ds xs)(p:List Nat)(hp: ∀i∈p,i<ds.length):Reps X.K W H (p.map fun i=>ds.getD i .non) (p.map fun i=>xs.getD i .non):=by
 induction p with
 |nil=>exact .nil
 |cons i p ih=>
  refine .cons ?_ (ih fun j hj=>hp j (List.mem_cons_of_mem _ hj))
  have hi:=hp i List.mem_cons_self
  obtain⟨x,h1,h2⟩:=r.get (i:=i) (d:=ds[i]) (by simp)
  show Rep X.K W H (ds.getD i .non) (xs.getD i .non)
  rw[zaQ h1,zaQ (x:=ds[i]) (by simp)]
  exact h2
theorem znG: ∀{ds:List D} {ks:List (List Int)},tups? ds=some ks->ds=ks.map kT
 |[],ks,e=>by simp[tups?] at e;subst e;rfl
 |d::r,ks,e=>by
  cases d with
  |tup l=>
   simp only[tups?,jo1,jo2] at e
   obtain⟨k,e1,ks',e2,rfl⟩:=e
   rw[znG e2,zeC e1];rfl
  |_=>simp[tups?] at e
theorem zfO:CallR X (.builtin "sorted") (VR X.K (zai .sorted)):=by
 rintro pins s σ H xs us Q I rv ⟨W,ds,r,wf,hs,hf,q⟩
 replace hf:zhk ds=some r:=hf
 unfold zhk at hf
 split at hf
 case h_2=>cases hf
 rename_i l
 unfold zfD at hf
 split at hf
 ·rename_i ns e1
  split at hf
  ·rename_i h64
   cases hf
   exact zlU (ds:=[.lst l]) I rv hs e1 h64 q
  ·cases hf
 ·rw[jo1] at hf
  obtain⟨ks,e1,hf⟩:=hf
  split at hf
  case isFalse=>cases hf
  rename_i hcond
  cases hf
  obtain⟨h64,hnd,hne⟩:=hcond
  have hne': ∀k∈ks,k≠[]:=fun k hk e=>by
   have:=List.all_eq_true.mp hne k hk
   rw[e] at this;cases this
  cases hs with
  |cons h1 t=>
   cases t
   obtain⟨p,ys,rfl,hp,rp⟩:=h1.lst
   obtain⟨u,rfl,ru⟩:=zhf rv
   cases ru
   obtain⟨its,rv',pl,hz⟩:=I.list hp
   have hT:=zkk I rp rv' e1
   have hlen:its.length=ks.length:=Paired.length hT
   have hl2:=rp.length
   have hl3:=rv'.length
   let r:Nat->Int:=fun i=>rkT ks (ks.getD i [])
   have memk: ∀i,i<its.length->ks.getD i []∈ks:=fun i hi=>by
    rw[zaQ (x:=ks[i]'(by omega)) (by simp)];exact List.getElem_mem _
   have injk: ∀i j,i<its.length->j<its.length->i≠j->ks.getD i []≠ks.getD j []:=fun i j hi hj ne e=>by
    rw[zaQ (x:=ks[i]'(by omega)) (by simp),zaQ (x:=ks[j]'(by omega)) (by simp)] at e
    exact ne ((List.getElem_inj hnd).mp e)
   have zck: ∀{h':Heap},(∀b o,s.heap.get? b=some o->h'.get? b=some o)->∀{v:Value} {k:List Int},zcQ s.heap v k->zcQ h' v k:=by
    intro h' hk v k ⟨a,o,i,n,h1,h2,h3⟩
    exact⟨a,o,i,n,h1,hk _ _ h2,h3⟩
   refine zg0 (κ:=tuples' (Value.type "int" != Value.type "tuple")) (r:=r) pl.isList (by omega) (fun i j hi hj ne e=>?_) (fun h2 h' tk hk=>?_) (fun i j h' tk C hi hj hk qC=>?_) fun pm tk hpm hup=>?_
   ·rcases zcZ (injk i j hi hj ne) with z|z
    ·have:=zg1 (memk i hi) z
     have e:rkT ks (ks.getD i [])=rkT ks (ks.getD j []):=e
     omega
    ·have:=zg1 (memk j hj) z
     have e:rkT ks (ks.getD i [])=rkT ks (ks.getD j []):=e
     omega
   ·obtain⟨fs,f1,f2,f3⟩:=zg2 (Paired.imp' (fun v k z=>zck hk z) hT) hne'
    exact kat_kind (s:={ s with heap:=h',toks:=tk }) f1 (by omega) (fun v hv=>by obtain⟨i,t,rfl⟩:=f3 v hv;exact Looks.of_pure rfl) (by simp) ⟨rfl,tk,rfl⟩
   ·obtain⟨x1,k1,a1,a2,a3⟩:=zc0 hT hi
    obtain⟨x2,k2,b1,b2,b3⟩:=zc0 hT hj
    rw[zaQ a1,zaQ b1]
    obtain⟨a,o,i1,n,rfl,c1,c2,c3,c4⟩:=zck hk a3
    obtain⟨b,o',i2,n',rfl,d1,d2,d3,d4⟩:=zck hk b3
    have er:decide (r i<r j)=LW.lexLt k1 k2:=by
     show decide (rkT ks (ks.getD i [])<rkT ks (ks.getD j []))=_
     by_cases e:i=j
     ·subst e
      rw[a2] at b2;cases b2
      rw[za4];simp
     ·have:=zhD (memk i hi) (memk j hj) (injk i j hi hj e)
      rw[zaQ a2,zaQ b2] at this
      rw[zaQ a2,zaQ b2]
      exact this
    rw[er] at qC
    refine kat_lt (s:={ s with heap:=h',toks:=tk }) c1 c3 d1 d3 ?_
    exact zfN 0 c4 d4 (by simp) (qC tk)
   ·obtain⟨e,he⟩:=sortedAll_at s.heap its (pm.toList.map fun i=>its.getD i Value.none).toArray
    have hlt: ∀i∈pm.toList,i<its.length:=fun i hi=>by
     have:=(Array.perm_iff_toList_perm.mp hpm.perm).mem_iff.mp hi
     simpa using this
    have fr:H (s.heap.objs.size+1)=Option.none:=I.hok.fresh (Nat.le_succ _)
    have hperm:(pm.toList.map fun i=>ks.getD i []).Perm ks:=by
     have h1:=(Array.perm_iff_toList_perm.mp hpm.perm).map fun i=>ks.getD i []
     refine h1.trans (List.Perm.of_eq ?_)
     apply List.ext_getElem
     ·simp[hlen]
     ·intro i h1 h2;simp at h1;simp[h1,h2]
    have hupk:(pm.toList.map fun i=>ks.getD i []).Pairwise zki:=by
     rw[List.pairwise_iff_getElem]
     intro i j hi hj hij
     rw[List.length_map,Array.length_toList,hpm.size] at hi hj
     have h1:=hup i j hij (by omega)
     have li:=hpm.lt i hi
     have lj:=hpm.lt j hj
     simp only[List.getElem_map,Array.getElem_toList]
     have gi:pm.getD i 0=pm[i]'(by rw[hpm.size];exact hi):=by simp[Array.getD,hpm.size,hi]
     have gj:pm.getD j 0=pm[j]'(by rw[hpm.size];exact hj):=by simp[Array.getD,hpm.size,hj]
     unfold kk at h1
     rw[gi] at h1 li
     rw[gj] at h1 lj
     have hne:pm[i]'(by rw[hpm.size];exact hi)≠pm[j]'(by rw[hpm.size];exact hj):=fun z=>by rw[z] at h1;omega
     have:=zhD (memk _ li) (memk _ lj) (injk _ _ li lj hne)
     show LW.lexLt _ _=true
     rw[<-this,decide_eq_true_iff]
     exact h1
    have heq:(pm.toList.map fun i=>ks.getD i [])=zey ks:=zkj (hperm.trans (zb4 ks).symm) hupk (zd5 hnd)
    have hds:(pm.toList.map fun i=>l.getD i .non)=(zey ks).map kT:=by
     rw[<-heq,List.map_map]
     apply List.map_congr_left
     intro i hi
     have hi':=hlt i hi
     rw[znG e1]
     show (ks.map kT).getD i .non=kT (ks.getD i [])
     rw[zaQ (x:=kT (ks[i]'(by omega))) (by simp[show i<ks.length by omega]),zaQ (x:=ks[i]'(by omega)) (by simp)]
    have hrep:=ziV rp pm.toList fun i hi=>by have:=hlt i hi;omega
    rw[hds] at hrep
    have hvals:=ziU rv' pm.toList fun i hi=>hlt i hi
    refine⟨.ref (s.heap.objs.size+1),upd H (s.heap.objs.size+1) (.lst (pm.toList.map fun i=>ys.getD i .non)),I.laid (t':=tk) (fun _ _=>sortedAll_old) (Nat.le_succ _) ⟨?_,_,e,hvals,?_⟩,rfl,q _ _ (zaO fr _) (zcV fr hrep)⟩
    ·rw[List.length_map,Array.length_toList,hpm.size];exact Nat.le_of_lt (zcS (by omega))
    ·simpa [seqObj] using he
end
end L2.LW
set_option maxHeartbeats 4000000
set_option maxHeartbeats 4000000
namespace L2.LW
open PySem PySem.Spec PySem.W PySem.Calls PyProof.Rows
noncomputable def RawD(h:Heap)(d:Addr)(tb:Array DictEntry)(ep:Nat):Prop:=∃o,h.get? d=some o/\o.ExactDict/\o.data= .dict tb ep
theorem RawD.at{h h2:Heap}{d:Addr}{tb:Array DictEntry}{ep:Nat}(x:RawD h d tb ep)(e: ∀o,h.get? d=some o->h2.get? d=some o):RawD h2 d tb ep:=let ⟨o,ho,r⟩:=x;⟨o,e _ ho,r⟩
theorem RawD.lt{h:Heap}{d:Addr}{tb:Array DictEntry}{ep:Nat}(x:RawD h d tb ep):d<h.objs.size:=let ⟨_,ho,_⟩:=x;Heap.lt_size ho
end L2.LW
set_option maxHeartbeats 4000000
namespace L2.LW
open PySem PySem.Spec PySem.W PySem.Calls PyProof.Rows
theorem zck{h h':Heap}(hk: ∀b o,h.get? b=some o->h'.get? b=some o){v:Value}{k:List Int}:zcQ h v k->zcQ h' v k:=fun ⟨a,o,i,n,h1,h2,h3⟩=>⟨a,o,i,n,h1,hk _ _ h2,h3⟩
end L2.LW
set_option maxHeartbeats 4000000
set_option maxHeartbeats 4000000
namespace L2.LW
open PySem PySem.Spec PySem.W PySem.Calls PyProof.Rows
noncomputable def zgr(i:Nat):Int:=reduceHash (Builtin.Tuple.tupleHashOf [hashInt ((i/8:Nat):Int),hashInt ((i%8:Nat):Int)])
theorem zlW:((List.range 64).map zgr).Nodup:=by decide+kernel
theorem znH{P:Program}{w:World}{a b:Int}(h:0<=a/\a<=7/\0<=b/\b<=7):(a*8+b).toNat<64/\tupleKeyHash (za6 P w) [Sum.inl a,Sum.inl b]=zgr (a*8+b).toNat:=by
 refine⟨by omega,?_⟩
 unfold zgr
 rw[show (((a*8+b).toNat/8:Nat):Int)=a by omega,show (((a*8+b).toNat%8:Nat):Int)=b by omega]
 rfl
noncomputable def zkl(k:List Key):Prop:=∃a b:Int,k=[Sum.inl a,Sum.inl b]/\0<=a/\a<=7/\0<=b/\b<=7
theorem zpB{P:Program}{w:World}{k k':List Key}(h:zkl k)(h':zkl k')(e:tupleKeyHash (za6 P w) k=tupleKeyHash (za6 P w) k'):k=k':=by
 obtain⟨a,b,rfl,r⟩:=h
 obtain⟨c,d,rfl,r'⟩:=h'
 obtain⟨l1,e1⟩:=znH (P:=P) (w:=w) r
 obtain⟨l2,e2⟩:=znH (P:=P) (w:=w) r'
 rw[e1,e2] at e
 have e3:((List.range 64).map zgr)[(a*8+b).toNat]'(by rw[List.length_map,List.length_range];exact l1)=((List.range 64).map zgr)[(c*8+d).toNat]'(by rw[List.length_map,List.length_range];exact l2):=by simpa using e
 have:=(List.getElem_inj zlW).mp e3
 have ea:a=c:=by omega
 have eb:b=d:=by omega
 rw[ea,eb]
section
variable {prog:Program} {w:World} {K:Type} [DecidableEq K] {knd:HeapKind prog w K} {A:Around} {E:Value->Shared->Prop} {s:Shared}
noncomputable def zr3(xs zs:List (K×Addr×Value)):List (K×Addr×Value):=zs.foldl (fun acc z=>storedH acc z.1 z.2.1 z.2.2) xs
end
end L2.LW
set_option maxHeartbeats 4000000
namespace L2.LW
open PySem PySem.Spec PySem.W PySem.Calls PyProof.Rows
noncomputable def zue(kvs kvs2:List (List Key×V)):List (List Key×V):=kvs2.foldl (fun acc p=>zgO acc p.1 p.2) kvs
theorem KT.merge{H:Hp}: ∀{kvs2:List (List Key×V)} {zs:List (List Key×Addr×Value)},KT H kvs2 zs->∀{kvs:List (List Key×V)} {xs:List (List Key×Addr×Value)},KT H kvs xs->KT H (zue kvs kvs2) (zr3 xs zs)
 |_,_,.nil,_,_,r=>r
 |_,_,.cons (a:=p) (b:=z) h t,kvs,xs,r=>by
  have r1:KT H (zgO kvs p.1 p.2) (storedH xs z.1 z.2.1 z.2.2):=by
   have e:p.1=z.1:=h.1
   rw[e]
   exact KT.put r z.1 (by rw[<-e];exact h.2.1) h.2.2
  exact KT.merge t r1
end L2.LW
set_option maxHeartbeats 4000000
set_option maxHeartbeats 4000000
namespace L2.LW
open PySem PySem.Spec PySem.W PySem.Calls PyProof.Rows
section
variable {X:Cx} {fn:Nat->List D->Option SV}
theorem zuf:OpR X (compareOp .Eq) (VR2 X.K (zai .eqS)):=by
 rintro pins s σ H x y v u Q I rx ry ⟨W,ds,r,wf,hs,hf,q⟩
 obtain⟨d,e,rfl,h1,h2⟩:=pr2 hs
 replace hf:zwm [d,e]=some r:=hf
 unfold zwm at hf
 split at hf
 case h_2=>cases hf
 rename_i a b z
 cases z
 cases hf
 cases h1.str;cases h2.str
 have e:decide (V.str a=V.str b)=decide (a=b):=by simp
 exact zxV pins s σ H _ _ v u Q I rx ry ⟨rfl,by rw[e];exact q _ H (.refl H) (.val (.bl _))⟩
theorem zug:OpR X (compareOp .NotEq) (VR2 X.K (zai .neS)):=by
 rintro pins s σ H x y v u Q I rx ry ⟨W,ds,r,wf,hs,hf,q⟩
 obtain⟨d,e,rfl,h1,h2⟩:=pr2 hs
 replace hf:zwn [d,e]=some r:=hf
 unfold zwn at hf
 split at hf
 case h_2=>cases hf
 rename_i a b z
 cases z
 cases hf
 cases h1.str;cases h2.str
 have e:decide (V.str a=V.str b)=decide (a=b):=by simp
 exact zxW pins s σ H _ _ v u Q I rx ry ⟨rfl,by rw[e];exact q _ H (.refl H) (.val (.bl _))⟩
end
end L2.LW
set_option maxHeartbeats 4000000
set_option maxHeartbeats 4000000
set_option maxHeartbeats 4000000
namespace L2.LW
open PySem PySem.Spec PySem.W PySem.Calls PyProof.Rows
noncomputable def FlXOk(K:PySem.W.Frag)(cl:Nat->Value)(E:XK)(W:Addr->Prop)(ρ:LW.Env)(σ:St)(W':Addr->Prop)(ρ':LW.Env)(σ':St)(H':Hp)(D:Ends):FlX->Prop
 | .fl f=>FlOk K W ρ σ W' ρ' σ' H' D f
 | .ex c=>E (cl c) Option.none H'
theorem FlXOk.back{K:PySem.W.Frag}{cl:Nat->Value}{E:XK}{W W1 W2:Addr->Prop}{ρ ρ1 ρ2:LW.Env}{σ σ1 σ2:St}{H H1 H2:Hp}{D:Ends}{fl:FlX}(p:SPost K W ρ σ H W1 ρ1 σ1 H1)(h:FlXOk K cl E W ρ σ W2 ρ2 σ2 H2 D fl):FlXOk K cl E W1 ρ1 σ1 W2 ρ2 σ2 H2 D fl:=by
 cases fl with
 |fl f=>exact FlOk.back (ρ2:=ρ2) p h
 |ex c=>exact h
section
variable {X:Cx} {cl:Nat->Value} {E:XK} {fa:Nat->List D->Option Ans} {fuel:Nat} {st:Stmt} {sts sts':List Stmt} {s:S} {t:T} {ts t1 t2:Ts} {e c:Expr} {es:List Expr} {cs:Es} {cc:LW.E} {x y:Str} {p pos:Pos}
noncomputable def tCx(K:PySem.W.Frag)(cl:Nat->Value)(E:XK)(fa:Nat->List D->Option Ans)(i:Nat)(cs:Es):TE:=fun σ H Q=>∃W ρ a,R K W ρ σ H/\zoW fa i cs ρ=some a/\match a with
 | .ok r []=>∀v H',Same H H'->Res K W H H' r v->Q v H'
 | .ok _ _=>False
 | .ex c=>∀H',Same H H'->E (cl c) Option.none H'
section
variable {i:Nat} (hp:PE X e (tCx X.K cl E fa i cs))
include hp
end
end
end L2.LW
set_option maxHeartbeats 4000000
set_option maxHeartbeats 4000000
set_option maxHeartbeats 4000000
namespace L2.LW
open PySem PySem.Spec PySem.W PySem.Calls PyProof.Rows
theorem all_cons{P:Nat->Prop}{a:Nat}{l:List Nat}(h:P a)(t: ∀c∈l,P c): ∀c∈a::l,P c:=fun c hc=>by
 rcases List.mem_cons.mp hc with rfl|hc
 ·exact h
 ·exact t c hc
end L2.LW
set_option maxHeartbeats 4000000
set_option maxRecDepth 100000
set_option maxHeartbeats 4000000
set_option maxHeartbeats 4000000
set_option maxHeartbeats 4000000
set_option maxHeartbeats 4000000
namespace L2.LW
open PySem PySem.Spec PySem.W PySem.Calls PyProof.Rows Builtin Builtin.ObjectAttr Builtin.Getset_descriptor
noncomputable def Lies(x D:Addr)(h:Heap):Prop:=∃o:Obj,h.get? x=some o/\o.cls= .ref D
theorem Lies.ty{x D:Addr}{M:Model}{h:Heap}(I:Lies x D h):Looks M h (typeOf (.ref x)) (.ref D):=by
 obtain⟨o,e1,e2⟩:=I
 exact e2▸(Looks.ld e1).andThen .now
section
variable {prog:Program} {w:World} {A:Around} {E:Value->Shared->Prop} {s:Shared} {K:PySem.W.Frag} {x C D:Addr}
structure Asks (K:PySem.W.Frag)(D:Addr):Prop where
 g:findIn K (.ref D) "__getattribute__"=some (some (.builtin "BaseException.__getattribute__"))
 h:findIn K (.ref D) "__getattr__"=some Option.none
 c:(clsIn K D).isSome=true
 a:findIn K (.ref D) "__class__"=some (some (.builtin "object.__class__"))
 n:specialIn K (.builtin "object.__class__") "__get__"=some (some (.builtin "getset_descriptor.__get__"))
 t:takesIn K (.builtin "object.__class__")=some true
 m:mroIn K D (.type "object")=some true
 e:mroIn K D (.type "BaseException")=some true
theorem Asks.find(Z:Asks K D){M:Model}{h:Heap}(X:K.In h):Looks M h (Builtin.ObjectAttr.find (.ref x) (.ref D) "__class__") (.bind (.builtin "getset_descriptor.__get__") (.builtin "object.__class__")):=
 (looks_findIn X Z.a).andThen ((looks_specialIn X Z.n).andThen ((show Looks M h (dataDescriptor? (some (.builtin "object.__class__")) (some (.builtin "getset_descriptor.__get__"))) (some _) from (looks_takesIn X Z.t).andThen .now).andThen (Looks.tag .now)))
theorem znI:splitId "BaseException.__getattribute__"=some ("BaseException","__getattribute__"):=by decide+kernel
theorem zk4:builtinKind "BaseException.__getattribute__"=some .slot:=by decide+kernel
theorem znJ:plainId "BaseException.__getattribute__"=true:=by decide+kernel
theorem znK:entryFor table "BaseException.__getattribute__"=some Builtin.«object.__getattribute__»:=
 entryFor_alias (id':="object.__getattribute__") (by kernel_rfl) (by first|rfl|decide+kernel) (by decide+kernel) (by kernel_rfl)
theorem zpC(a b:Value):argsOk "BaseException.__getattribute__" ⟨[a,b],[]⟩:=by unfold argsOk;kernel_rfl
theorem zpD(u:Value):bindSpecial (.builtin "BaseException.__getattribute__") u=pure (.builtin "BaseException.__getattribute__",[u]):=by
 have n1:withoutEnding? "BaseException.__getattribute__" "#opaque"=Option.none:=by decide+kernel
 have n2:withoutEnding? "BaseException.__getattribute__" "#data"=Option.none:=by decide+kernel
 simp only[bindSpecial,typeOf,builtinType,n1,n2,zk4]
 rfl
theorem Asks.check(Z:Asks K D){M:Model}{zch:List Value}{Q:Unit->Shared->Prop}(X:K.In s.heap)(I:Lies x D s.heap)(ok:argsOk "BaseException.__getattribute__" ⟨.ref x::zch,[]⟩)(q:Q () s):
  wpAny M A (checkBuiltinCall "BaseException.__getattribute__" ⟨.ref x::zch,[]⟩) Q E s:=by
 obtain⟨hp,gn,dw,tt,os⟩:=s
 have T0:Looks M hp (isInstance (.ref x) (.type "BaseException")) true:=(Lies.ty (M:=M) I).andThen (looks_mroIn X Z.e)
 simp only[checkBuiltinCall,zk4,znI]
 refine wpAny_bind (T0.at ?_)
 simp only[Bool.not_true,Bool.false_eq_true,if_false]
 cases hs:Manifest.signature? "BaseException.__getattribute__" with
 |none=>exact wpAny_pure q
 |some sg=>
  simp only[argsOk,hs] at ok
  have ok2:Bind.checkArgs "BaseException.__getattribute__" sg ⟨.ref x::zch,[]⟩=pure ():=ok
  show wpAny M A (Bind.checkArgs _ sg _) Q E _
  rw[ok2]
  exact wpAny_pure q
theorem Asks.got(Z:Asks K D){tp:Value}{R:Result->Shared->Prop}(X:K.In s.heap)(I:Lies x D s.heap)(q:R (.ok (.ret (.ref D))) s):
  codeAny (model prog w) A (.call (.builtin "getset_descriptor.__get__") ⟨[.builtin "object.__class__",.ref x,tp],[]⟩) R s:=by
 obtain⟨hp,gn,dw,tt,os⟩:=s
 have T0:Looks (model prog w) hp (typeOf (.ref x)) (.ref D):=Lies.ty I
 have T1:=looks_mroIn (M:=model prog w) X Z.m
 refine codeAny_call_builtin KF.slot_gs.plain KF.entry_gs (KF.slot_gs.check _ _ _ _ _ _ _ _ KF.type_class (KF.args_gs _ _ _) ?_)
 unfold Builtin.«getset_descriptor.__get__» descrGet
 rw[dga_obj]
 refine wpAny_bind (wpAny_pure ?_)
 unfold descrGetter descrCheckInstance descrNameAndClass isInstance
 simp only[KF.owner_class]
 repeat lk
 refine⟨Code.quiet_builtin _ (by decide+kernel),codeAny_builtin KF.entry_class ?_⟩
 unfold Builtin.«object.__class__» shownTypeOf
 repeat lk
 exact q
theorem Asks.entry(Z:Asks K D){tk:Tok}{Q:Fin->Shared->Prop}(X:K.In s.heap)(I:Lies x D s.heap)(q:Q (.done (.ret (.ref D))) s):
  wpAny (model prog w) A (Builtin.«object.__getattribute__» ⟨[.ref x,.str "__class__" tk],[]⟩) Q E s:=by
 obtain⟨hp,gn,dw,tt,os⟩:=s
 have T0:Looks (model prog w) hp (typeOf (.ref x)) (.ref D):=Lies.ty I
 have T1:=Z.find (x:=x) (M:=model prog w) X
 refine wpAny_bind (wpAny_pure (wpAny_bind (wpAny_pure (wpAny_bind (T0.at (wpAny_bind (T1.at ?_)))))))
 show wpAny _ _ (holding [.builtin "object.__class__"] (call (.builtin "getset_descriptor.__get__") [.builtin "object.__class__",.ref x,.ref D]) >>= ret) _ _ _
 exact wpAny_bind (wpAny_holding (wpAny_call (Z.got X I (wpAny_pure q))))
theorem Asks.attr(Z:Asks K D){Q:Option Value->Shared->Prop}(X:K.In s.heap)(I:Lies x D s.heap)(q:Q (some (.ref D)) { s with toks:=s.toks+1 }):wpAny (model prog w) A (getAttr? (.ref x) "__class__") Q E s:=by
 obtain⟨hp,gn,dw,tt,os⟩:=s
 have T0:Looks (model prog w) hp (typeOf (.ref x)) (.ref D):=Lies.ty I
 have T1:=looks_findIn (M:=model prog w) X Z.g
 have T2:=looks_findIn (M:=model prog w) X Z.h
 unfold getAttr? getAttrBy? getAttrBy
 refine wpAny_bind (wpAny_mkText (wpAny_bind (wpAny_attempt (wpAny_holding (wpAny_bind (T0.at (wpAny_bind (T1.at ?_))))))))
 show wpAny _ _ (getAttrByItsOwn _ _ _ _ _ _) _ _ _
 unfold getAttrByItsOwn hookBefore
 refine wpAny_bind (T2.at ?_)
 refine wpAny_bind (wpAny_attempt (wpAny_holding ?_))
 show wpAny _ _ (bindSpecial (.builtin "BaseException.__getattribute__") (.ref x) >>= _) _ _ _
 refine wpAny_bind (wpAny_of_eq (zpD _) ?_)
 refine wpAny_call (codeAny_call_builtin znJ znK (Z.check (s:=⟨hp,gn,dw,tt+1,os⟩) X I (zpC _ _) (Z.entry (s:=⟨hp,gn,dw,tt+1,os⟩) X I ?_)))
 exact wpAny_mono (handed_on (Q:=fun v s'=>v= .ref D/\s'=⟨hp,gn,dw,tt+1,os⟩) rfl ⟨rfl,rfl⟩) (fun v s' z=>by obtain⟨rfl,rfl⟩:=z;exact wpAny_pure q) fun _ _ z=>z
theorem isT{M:Model}{h:Heap}{B:Addr}(X:K.In h)(e:(clsIn K B).isSome=true):Looks M h (isType (.ref B)) true:=by
 unfold clsIn at e
 split at e
 case h_2=>cases e
 rename_i ho
 intro A1 Q1 E1 s1 k q
 unfold isType loadHead
 exact wpAny_bind (wpAny_loadPart (k _ _ (X _ _ ho)) (wpAny_pure q))
theorem Asks.nested(Z:Asks K D){c:Value}{dep:Int}{tk:Tok}{Q:Fin->Shared->Prop}(X:K.In s.heap)(I:Lies x D s.heap)(ty:Looks (model prog w) s.heap (typeOf c) (.type "type"))(it:Looks (model prog w) s.heap (isType c) true)
  (ne:(Value.ref D==c)=false) (sb:Looks (model prog w) s.heap (isSubtype (.ref D) c) false) (q:Q (.done (.ret (.bool false))) { s with toks:=s.toks+1 }):
  wpAny (model prog w) A (Builtin.«isinstance.nested» ⟨[.ref x,c,.int dep tk],[]⟩) Q E s:=by
 obtain⟨hp,gn,dw,tt,os⟩:=s
 have T0:Looks (model prog w) hp (typeOf (.ref x)) (.ref D):=Lies.ty I
 have TD:Looks (model prog w) hp (isType (.ref D)) true:=isT X Z.c
 have TI:Looks (model prog w) hp (isInstance (.ref x) c) false:=T0.andThen sb
 unfold Builtin.«isinstance.nested»
 refine wpAny_bind (T0.at ?_)
 rw[if_neg (by rw[ne];decide)]
 refine wpAny_bind (ty.at ?_)
 rw[if_pos (by decide)]
 k_delta "plainIsInstance"
 refine wpAny_bind (wpAny_bind (it.at ?_))
 simp only[Bool.not_true,Bool.false_eq_true,if_false]
 refine wpAny_bind (TI.at ?_)
 simp only[Bool.false_eq_true,if_false]
 refine wpAny_bind (Z.attr X I ?_)
 refine wpAny_bind (TD.at ?_)
 simp only[Bool.not_true,Bool.false_eq_true,if_false]
 refine wpAny_bind (wpAny_rule ?_)
 refine sb.at ?_
 first
  |exact wpAny_pure q
  |exact wpAny_pure (wpAny_pure q)
  |exact wpAny_bind (wpAny_pure (wpAny_pure q))
theorem Asks.not(Z:Asks K D){Q:Value->Shared->Prop}(X:K.In s.heap)(I:Lies x D s.heap)(e:kin_not K D C=true)(q:Q (.bool false) { s with toks:=s.toks+1 }):wpAny (model prog w) A (call (.builtin "isinstance") [.ref x,.ref C]) Q E s:=by
 unfold kin_not at e
 simp only[Bool.and_eq_true,decide_eq_true_eq,beq_iff_eq] at e
 obtain⟨⟨⟨e0,e1⟩,e2⟩,e3⟩:=e
 refine call_isinstance (S:=fun _ R s=>(K.In s.heap/\Lies x D s.heap)/\R (.ok (.ret (.bool false))) { s with toks:=s.toks+1 }) (fun _ _ _ _ _ hs=>isinstance_outer (Z.nested hs.1.1 hs.1.2 (looks_typeIn hs.1.1 e2) (isT hs.1.1 e1) ?_ (looks_subIn hs.1.1 e3) hs.2) (by intro z;cases z)) ⟨⟨X,I⟩,q⟩
 exact Bool.eq_false_iff.mpr fun z=>e0 (Value.ref.inj (beq_iff_eq.mp z))
end
end L2.LW
set_option maxHeartbeats 4000000
namespace L2.LW
open PySem PySem.Spec PySem.W PySem.Calls PyProof.Rows
noncomputable def zyB(K:PySem.W.Frag)(D:Addr):Bool:=findIn K (.ref D) "__getattribute__"==some (some (.builtin "BaseException.__getattribute__"))&&findIn K (.ref D) "__getattr__"==some Option.none&&(clsIn K D).isSome&&findIn K (.ref D) "__class__"==some (some (.builtin "object.__class__"))&&specialIn K (.builtin "object.__class__") "__get__"==some (some (.builtin "getset_descriptor.__get__"))&&
 takesIn K (.builtin "object.__class__")==some true&&mroIn K D (.type "object")==some true&&mroIn K D (.type "BaseException")==some true
noncomputable def apart(K:PySem.W.Frag)(CL:Nat->Addr)(cs:List Nat):Bool:=cs.all fun c=>zyB K (CL c)&&cs.all fun d=>c==d||kin_not K (CL c) (CL d)
end L2.LW
set_option maxHeartbeats 4000000
namespace L2.LW.ST
open PySem PySem.SetTable
noncomputable def lcg(m i:Nat):Nat:=(i*5+1)%(m+1)
noncomputable def it(m:Nat):Nat->Nat->Nat
 |0,i=>i
 |n+1,i=>it m n (lcg m i)
theorem ziW{m:Nat}: ∀(a b i:Nat),it m (a+b) i=it m b (it m a i)
 |0,b,i=>by rw[Nat.zero_add];rfl
 |a+1,b,i=>by rw[Nat.add_right_comm];exact ziW a b (lcg m i)
noncomputable def orb(m:Nat):List Nat:=(List.range (m+1)).map fun b=>it m b 0
noncomputable def Full(m:Nat):Prop:=(∀s,s<=m->∃b,b<=m/\it m b 0=s)/\it m (m+1) 0=0
noncomputable def zuh(m:Nat):Bool:=((List.range (m+1)).all fun s=>(orb m).contains s)&&it m (m+1) 0==0
theorem zkm{m:Nat}(h:zuh m=true):Full m:=by
 unfold zuh at h
 rw[Bool.and_eq_true,beq_iff_eq,List.all_eq_true] at h
 refine⟨fun s hs=>?_,h.2⟩
 have h1:=h.1 s (List.mem_range.mpr (by omega))
 simp only[orb,List.contains_iff_mem,List.mem_map,List.mem_range] at h1
 obtain⟨b,h2,h3⟩:=h1
 exact⟨b,by omega,h3⟩
theorem full7:Full 7:=zkm (by decide+kernel)
theorem full31:Full 31:=zkm (by decide+kernel)
theorem full127:Full 127:=zkm (by decide+kernel)
theorem Full.all{m:Nat}(F:Full m){i s:Nat}(hi:i<=m)(hs:s<=m): ∃j,j<=m/\it m j i=s:=by
 obtain⟨a,a1,a2⟩:=F.1 i hi
 obtain⟨b,b1,b2⟩:=F.1 s hs
 by_cases h:a<=b
 ·refine⟨b-a,by omega,?_⟩
  rw[<-a2,<-ziW,show a+(b-a)=b by omega];exact b2
 ·refine⟨b+(m+1)-a,by omega,?_⟩
  rw[<-a2,<-ziW,show a+(b+(m+1)-a)=(m+1)+b by omega,ziW,F.2];exact b2
noncomputable def base(m:Nat)(b:Nat):Nat->Nat×Nat
 |0=>(b%(m+1),b)
 |k+1=>SetTable.leap m (base m b k).1 (base m b k).2
theorem ziX(m b:Nat): ∀k,(base m b k).2=b/32 ^ k
 |0=>by simp[base]
 |k+1=>by
  show (base m b k).2/32=_
  rw[ziX m b k,Nat.div_div_eq_div_mul,Nat.pow_succ]
theorem zr4(m b:Nat): ∀k,(base m b k).1<=m
 |0=>Nat.le_of_lt_succ (Nat.mod_lt b (Nat.succ_pos m))
 |k+1=>Nat.le_of_lt_succ (Nat.mod_lt ((base m b k).1*5+1+(base m b k).2/32) (Nat.succ_pos m))
theorem zk5{m b:Nat}(hb:b<2 ^ 64): ∀j,(base m b (13+j)).1=it m j (base m b 13).1
 |0=>rfl
 |j+1=>by
  have e:it m (j+1) (base m b 13).1=lcg m (it m j (base m b 13).1):=by rw[ziW j 1];rfl
  rw[e,<-zk5 hb j]
  show ((base m b (13+j)).1*5+1+(base m b (13+j)).2/32)%(m+1)=_
  rw[ziX,show b/32 ^ (13+j)=0 from Nat.div_eq_of_lt (Nat.lt_of_lt_of_le hb (by
   rw[show (2:Nat) ^ 64=2 ^ 64 from rfl]
   exact Nat.le_trans (by decide:2 ^ 64<=32 ^ 13) (Nat.pow_le_pow_right (by decide) (by omega))))]
  rfl
theorem zk6{m b s:Nat}(F:Full m)(hb:b<2 ^ 64)(hs:s<=m): ∃k,k<=13+m/\(base m b k).1=s:=by
 obtain⟨j,h1,h2⟩:=F.all (zr4 m b 13) hs
 exact⟨13+j,by omega,by rw[zk5 hb];exact h2⟩
noncomputable def adv(t:SetTable):Nat->Probe->Probe
 |0,p=>p
 |n+1,p=>adv t n (t.advance p)
theorem zdN{t:SetTable}: ∀(a b:Nat) (p:Probe),adv t (a+b) p=adv t b (adv t a p)
 |0,b,p=>by rw[Nat.zero_add];rfl
 |a+1,b,p=>by rw[Nat.add_right_comm];exact zdN a b (t.advance p)
theorem zhE{t:SetTable}{p:Probe}: ∀n,n<=p.more->adv t n p={ p with j:=p.j+n,more:=p.more-n }
 |0,_=>rfl
 |n+1,h=>by
  rw[zdN n 1,zhE n (by omega)]
  show t.advance _=_
  unfold SetTable.advance
  rw[if_pos (show p.more-n>0 by omega)]
  simp only[Probe.mk.injEq,and_true,true_and]
  omega
noncomputable def at_(t:SetTable)(d:Option Nat)(q:Nat×Nat):Probe:={ j:=q.1,more:=runEnd t.mask q.1-q.1,i:=q.1,perturb:=q.2,dummy:=d }
theorem znL{m i:Nat}:runEnd m i-i<=9:=by unfold runEnd;split<;>omega
theorem zk7(t:SetTable)(h:Int): ∀k,∃n,n<=10*k/\adv t n (t.probeStart h)=at_ t none (base t.mask (bits h) k)
 |0=>⟨0,Nat.le_refl _,rfl⟩
 |k+1=>by
  obtain⟨n,h1,h2⟩:=zk7 t h k
  have ml:=znL (m:=t.mask) (i:=(base t.mask (bits h) k).1)
  refine⟨n+(runEnd t.mask (base t.mask (bits h) k).1-(base t.mask (bits h) k).1)+1,by omega,?_⟩
  rw[zdN,zdN,h2,zhE (p:=at_ t none (base t.mask (bits h) k)) (runEnd t.mask (base t.mask (bits h) k).1-(base t.mask (bits h) k).1) (Nat.le_refl _)]
  show t.advance _=_
  unfold SetTable.advance
  rw[if_neg (by simp[at_])]
  rfl
theorem zr5{t:SetTable}{h:Int}{s:Nat}(F:Full t.mask)(hs:s<=t.mask): ∃n,n<10*turns t.mask/\(adv t n (t.probeStart h)).j=s:=by
 have hb:bits h<2 ^ 64:=by
  unfold bits
  have:=Int.emod_lt_of_pos h (show (0:Int)<2 ^ 64 by decide)
  have:=Int.emod_nonneg h (show (2 ^ 64:Int)≠0 by decide)
  omega
 obtain⟨k,h1,h2⟩:=zk6 (b:=bits h) F hb hs
 obtain⟨n,h3,h4⟩:=zk7 t h k
 refine⟨n,by unfold turns;omega,?_⟩
 rw[h4];exact h2
end L2.LW.ST
set_option maxHeartbeats 4000000
namespace L2.LW.ST
open PySem PySem.SetTable
noncomputable def Ris(l:List Nat):Prop:=∀i j:Nat,i<j->∀a b,l[i]? =some a->l[j]? =some b->a<b
theorem zhF{l:List Nat}{x:Nat}: ∀(fuel lo hi:Nat),hi<=lo+fuel->lo<=hi->hi<=l.length->(∀k a,k<lo->l[k]? =some a->a<x)->(∀k a,hi<=k->l[k]? =some a->x<=a)->Ris l->
  ∃r,below.go l.toArray x fuel lo hi=r/\r<=l.length/\(∀k a,k<r->l[k]? =some a->a<x)/\∀k a,r<=k->l[k]? =some a->x<=a
 |0,lo,hi,h1,h2,h3,h4,h5,_=>⟨lo,rfl,by omega,h4,fun k a hk=>h5 k a (by omega)⟩
 |fuel+1,lo,hi,h1,h2,h3,h4,h5,hr=>by
  unfold below.go
  by_cases hl:lo<hi
  ·rw[if_pos hl]
   have hm:(lo+hi)/2<l.length:=by omega
   obtain⟨a,ha⟩: ∃a,l[(lo+hi)/2]? =some a:=⟨_,List.getElem?_eq_getElem hm⟩
   have hg:l.toArray.getD ((lo+hi)/2) x=a:=by
    rw[Array.getD_eq_getD_getElem?,List.getElem?_toArray,ha];rfl
   show ∃r,(if l.toArray.getD ((lo+hi)/2) x<x then below.go l.toArray x fuel ((lo+hi)/2+1) hi else below.go l.toArray x fuel lo ((lo+hi)/2))=r/\_
   rw[hg]
   by_cases hx:a<x
   ·rw[if_pos hx]
    refine zhF fuel _ hi (by omega) (by omega) h3 (fun k b hk hb=>?_) h5 hr
    by_cases e:k=(lo+hi)/2
    ·subst e;rw[ha] at hb;cases hb;exact hx
    ·have:=hr k ((lo+hi)/2) (by omega) b a hb ha;omega
   ·rw[if_neg hx]
    refine zhF fuel lo _ (by omega) (by omega) (by omega) h4 (fun k b hk hb=>?_) hr
    by_cases e:k=(lo+hi)/2
    ·subst e;rw[ha] at hb;cases hb;omega
    ·have:=hr ((lo+hi)/2) k (by omega) a b ha hb;omega
  ·rw[if_neg hl]
   exact⟨lo,rfl,by omega,h4,fun k a hk=>h5 k a (by omega)⟩
theorem zk8{l:List Nat}(hr:Ris l)(x:Nat): ∃r,below l.toArray x=r/\r<=l.length/\(∀k a,k<r->l[k]? =some a->a<x)/\∀k a,r<=k->l[k]? =some a->x<=a:=by
 refine zhF (l:=l) (x:=x) l.toArray.size 0 l.toArray.size (by omega) (by omega) (by simp) (fun k a hk=>by omega) (fun k a hk ha=>?_) hr
 rw[List.getElem?_eq_none (by simpa using hk)] at ha;cases ha
theorem zpE{l:List Nat}(hr:Ris l){x q:Nat}(h:l[q]? =some x):below l.toArray x=q:=by
 obtain⟨r,e,h1,h2,h3⟩:=zk8 hr x
 rw[e]
 have a1:r<=q:=Nat.le_of_not_lt fun z=>absurd (h2 q x z h) (Nat.lt_irrefl x)
 rcases Nat.lt_or_ge r q with z|z
 ·obtain⟨b,hb⟩: ∃b,l[r]? =some b:=⟨_,List.getElem?_eq_getElem (Nat.lt_trans z (List.getElem?_eq_some_iff.mp h).1)⟩
  have:=hr r q z b x hb h
  have:=h3 r b (Nat.le_refl _) hb
  omega
 ·omega
structure Tb (t:SetTable)(pl:List Nat)(hs:List Int):Prop where
 full:Full t.mask
 dum:t.dummies= #[]
 plc:t.place=pl.toArray
 ris:Ris pl
 len:pl.length=hs.length
 le: ∀x∈pl,x<=t.mask
 nd:hs.Nodup
 room:hs.length<=t.mask
theorem ziY{t:SetTable}{pl:List Nat}{hs:List Int}(T:Tb t pl hs){x q:Nat}(h:pl[q]? =some x):t.slot x= .live q:=by
 unfold SetTable.slot
 have e:below t.place x=q:=by rw[T.plc];exact zpE T.ris h
 simp only[e]
 rw[if_pos (by rw[T.plc,List.getElem?_toArray,h];exact beq_self_eq_true _)]
theorem zlX{t:SetTable}{pl:List Nat}{hs:List Int}(T:Tb t pl hs){x:Nat}(h:x∉pl):t.slot x= .empty:=by
 unfold SetTable.slot
 simp only
 rw[if_neg,if_neg]
 ·rw[T.dum];unfold has;simp
 ·rw[T.plc]
  intro z
  rw[beq_iff_eq,List.getElem?_toArray] at z
  exact h (List.mem_of_getElem? z)
theorem zui{P:Nat->Prop}: ∀{n:Nat},P n->∃m,m<=n/\P m/\∀k,k<m->¬P k
 |n,h=>by
  induction n using Nat.strongRecOn with
  |_ n ih=>
   by_cases e: ∃k,k<n/\P k
   ·obtain⟨k,h1,h2⟩:=e
    obtain⟨m,a,b,c⟩:=ih k h1 h2
    exact⟨m,by omega,b,c⟩
   ·exact⟨n,Nat.le_refl _,h,fun k hk z=>e ⟨k,hk,z⟩⟩
theorem ziZ{l:List Nat}: ∀{n:Nat},(∀s,s<n->s∈l)->n<=l.length
 |n,h=>by
  induction n generalizing l with
  |zero=>exact Nat.zero_le _
  |succ n ih=>
   have hm:=h n (Nat.lt_succ_self n)
   have:=ih (l:=l.erase n) fun s hs=>(List.mem_erase_of_ne (by omega)).mpr (h s (by omega))
   rw[List.length_erase_of_mem hm] at this
   have:=List.length_pos_of_mem hm
   omega
theorem zi0{t:SetTable}: ∀(n:Nat) (p:Probe),(adv t n p).dummy=p.dummy
 |0,p=>rfl
 |n+1,p=>by
  show (adv t n (t.advance p)).dummy=_
  rw[zi0 n]
  unfold SetTable.advance
  split<;>rfl
theorem zqM{m i:Nat}(h:i<=m):i+(runEnd m i-i)<=m:=by unfold runEnd;split<;>omega
theorem zqN{t:SetTable}: ∀(n:Nat) (p:Probe),p.j+p.more<=t.mask->(adv t n p).j+(adv t n p).more<=t.mask
 |0,p,h=>h
 |n+1,p,h=>by
  refine zqN n (t.advance p) ?_
  unfold SetTable.advance
  split
  ·show p.j+1+(p.more-1)<=_;omega
  ·exact zqM (Nat.le_of_lt_succ (Nat.mod_lt _ (Nat.succ_pos _)))
theorem znM(t:SetTable)(h:Int)(n:Nat):(adv t n (t.probeStart h)).j<=t.mask:=
 Nat.le_trans (Nat.le_add_right _ _) (zqN n (t.probeStart h) (zqM (Nat.le_of_lt_succ (Nat.mod_lt _ (Nat.succ_pos _)))))
theorem zhG{t t':SetTable}(e:t.mask=t'.mask): ∀(n:Nat) (p:Probe),adv t n p=adv t' n p
 |0,_=>rfl
 |n+1,p=>by
  show adv t n (t.advance p)=adv t' n (t'.advance p)
  have:t.advance p=t'.advance p:=by unfold SetTable.advance;rw[e]
  rw[this];exact zhG e n _
theorem zr6{t:SetTable}{ha:Nat->Int}{h:Int}: ∀(n fuel:Nat) (p:Probe),n<fuel->p.dummy=none->(∀k,k<n->∃i,t.slot (adv t k p).j= .live i/\ha i≠h)->
  (t.slot (adv t n p).j= .empty->probe.go t ha h fuel p=some (.empty (adv t n p).j none))/\
  ∀i,t.slot (adv t n p).j= .live i->ha i=h->probe.go t ha h fuel p=some (.candidate (adv t n p).j i (t.advance (adv t n p)))
 |0,fuel+1,p,_,hd,_=>by
  unfold probe.go
  refine⟨fun e=>?_,fun i e q=>?_⟩
  ·have e:t.slot p.j= .empty:=e
   rw[e];simp only[hd];rfl
  ·have e:t.slot p.j= .live i:=e
   rw[e];simp only
   rw[if_pos (beq_iff_eq.mpr q)];rfl
 |n+1,fuel+1,p,hf,hd,hk=>by
  obtain⟨i,e1,e2⟩:=hk 0 (Nat.succ_pos n)
  have e1:t.slot p.j= .live i:=e1
  have ih:=zr6 (t:=t) (ha:=ha) (h:=h) n fuel (t.advance p) (by omega) ((zi0 1 p).trans hd) fun k hn=>hk (k+1) (by omega)
  have st:probe.go t ha h (fuel+1) p=probe.go t ha h fuel (t.advance p):=by
   rw[probe.go,e1]
   simp only
   rw[if_neg (fun z=>e2 (beq_iff_eq.mp z))]
  rw[st]
  exact ih
noncomputable def Reach(t:SetTable)(pl:List Nat)(h:Int)(x:Nat):Prop:=∃n,n<10*turns t.mask/\(adv t n (t.probeStart h)).j=x/\∀k,k<n->(adv t k (t.probeStart h)).j∈pl
noncomputable def Found(t:SetTable)(pl:List Nat)(hs:List Int):Prop:=∀xh∈pl.zip hs,Reach t pl xh.2 xh.1
section
variable {t:SetTable} {pl:List Nat} {hs:List Int} {h:Int} {x q:Nat}
noncomputable def hat(hs:List Int)(i:Nat):Int:=hs[i]?.getD 0
theorem znN(T:Tb t pl hs)(hx:x∈pl): ∃q g,pl[q]? =some x/\hs[q]? =some g/\t.slot x= .live q/\hat hs q=g:=by
 obtain⟨q,hq,e⟩:=List.mem_iff_getElem.mp hx
 have e1:pl[q]? =some x:=by rw[List.getElem?_eq_getElem hq,e]
 have h2:q<hs.length:=by rw[<-T.len];exact hq
 exact⟨q,hs[q],e1,List.getElem?_eq_getElem h2,ziY T e1,by unfold hat;rw[List.getElem?_eq_getElem h2];rfl⟩
theorem probe_new(T:Tb t pl hs)(hn:h∉hs): ∃j,j<=t.mask/\j∉pl/\Reach t pl h j/\t.probe (hat hs) h (t.probeStart h)=some (.empty j none):=by
 have hs0: ∃s,s<=t.mask/\s∉pl:=by
  refine Classical.byContradiction fun z=>?_
  have:=ziZ (l:=pl) (n:=t.mask+1) fun s hs=>Classical.byContradiction fun y=>z ⟨s,by omega,y⟩
  have:=T.len
  have:=T.room
  omega
 obtain⟨s,s1,s2⟩:=hs0
 obtain⟨n0,n1,n2⟩:=zr5 (t:=t) (h:=h) T.full s1
 obtain⟨n,m1,m2,m3⟩:=zui (P:=fun n=>(adv t n (t.probeStart h)).j∉pl) (n:=n0) (by simpa only[n2] using s2)
 have m3': ∀k,k<n->(adv t k (t.probeStart h)).j∈pl:=fun k hk=>Classical.byContradiction (m3 k hk)
 refine⟨_,znM t h n,m2,⟨n,by omega,rfl,m3'⟩,?_⟩
 refine (zr6 n (10*turns t.mask) (t.probeStart h) (by omega) rfl fun k hk=>?_).1 (zlX T m2)
 obtain⟨q,g,e1,e2,e3,e4⟩:=znN T (m3' k hk)
 exact⟨q,e3,fun z=>hn (by rw[<-z,e4];exact List.mem_of_getElem? e2)⟩
theorem probe_old(T:Tb t pl hs)(F:Found t pl hs)(hx:pl[q]? =some x)(hh:hs[q]? =some h): ∃nx,t.probe (hat hs) h (t.probeStart h)=some (.candidate x q nx):=by
 have hz:(x,h)∈pl.zip hs:=List.mem_of_getElem? (i:=q) (by rw[List.getElem?_zip_eq_some];exact⟨hx,hh⟩)
 obtain⟨n0,n1,n2,n3⟩:=F _ hz
 obtain⟨n,m1,m2,m3⟩:=zui (P:=fun n=>(adv t n (t.probeStart h)).j=x) (n:=n0) n2
 refine⟨_,by
  have:=(zr6 (ha:=hat hs) (h:=h) n (10*turns t.mask) (t.probeStart h) (by omega) rfl fun k hk=>?_).2 q (by rw[m2];exact ziY T hx) (by unfold hat;rw[hh];rfl)
  ·rw[m2] at this;exact this
  ·obtain⟨q2,g,e1,e2,e3,e4⟩:=znN T (n3 k (by omega))
   refine⟨q2,e3,fun z=>m3 k hk ?_⟩
   rw[z] at e4
   subst e4
   obtain⟨l1,w1⟩:=List.getElem?_eq_some_iff.mp hh
   obtain⟨l2,w2⟩:=List.getElem?_eq_some_iff.mp e2
   have:q2=q:=(List.getElem_inj T.nd).mp (w2.trans w1.symm)
   subst this
   rw[hx] at e1
   exact (Option.some.inj e1).symm⟩
theorem Reach.more(R:Reach t pl h x){pl':List Nat}(s: ∀y∈pl,y∈pl'){t':SetTable}(e:t.mask=t'.mask):Reach t' pl' h x:=by
 obtain⟨n,a,b,c⟩:=R
 have st:t.probeStart h=t'.probeStart h:=by unfold probeStart;rw[e]
 refine⟨n,by rw[<-e];exact a,by rw[<-st,<-zhG e];exact b,fun k hk=>?_⟩
 rw[<-st,<-zhG e]
 exact s _ (c k hk)
end
end L2.LW.ST
set_option maxHeartbeats 4000000
namespace L2.LW.ST
open PySem PySem.SetTable
section
variable {t:SetTable} {pl:List Nat} {hs:List Int} {h:Int} {j:Nat}
noncomputable def ins{α:Type}(l:List α)(p:Nat)(x:α):List α:=l.take p++x::l.drop p
theorem insertAt_eq{α:Type}(l:List α)(p:Nat)(x:α):insertAt l.toArray p x=(ins l p x).toArray:=by
 unfold insertAt ins
 apply Array.ext'
 simp[List.take_of_length_le]
theorem ins_len{α:Type}{l:List α}{p:Nat}{x:α}(h:p<=l.length):(ins l p x).length=l.length+1:=by
 unfold ins;simp;omega
theorem mem_ins{α:Type}{l:List α}{p:Nat}{x y:α}:y∈ins l p x↔y=x\/y∈l:=by
 unfold ins
 rw[List.mem_append,List.mem_cons]
 constructor
 ·rintro (h|h|h)
  ·exact .inr (List.mem_of_mem_take h)
  ·exact .inl h
  ·exact .inr (List.mem_of_mem_drop h)
 ·rintro (h|h)
  ·exact .inr (.inl h)
  ·rw[<-List.take_append_drop p l,List.mem_append] at h
   rcases h with h|h
   ·exact .inl h
   ·exact .inr (.inr h)
theorem ins_get{α:Type}{l:List α}{p k:Nat}{x:α}(h:p<=l.length):(ins l p x)[k]? =if k<p then l[k]? else if k=p then some x else l[k-1]? :=by
 unfold ins
 rw[List.getElem?_append,List.length_take,Nat.min_eq_left h]
 by_cases h1:k<p
 ·rw[if_pos h1,if_pos h1,List.getElem?_take,if_pos h1]
 ·rw[if_neg h1,if_neg h1]
  by_cases h2:k=p
  ·rw[if_pos h2,h2,Nat.sub_self];rfl
  ·rw[if_neg h2]
   obtain⟨m,rfl⟩: ∃m,k=p+1+m:=⟨k-(p+1),by omega⟩
   rw[show p+1+m-p=m+1 by omega,List.getElem?_cons_succ,List.getElem?_drop,show p+1+m-1=p+m by omega]
theorem zr7{l:List Nat}{m:List Int}{p:Nat}{x:Nat}{y:Int}(e:l.length=m.length)(h:p<=l.length):(ins l p x).zip (ins m p y)=ins (l.zip m) p (x,y):=by
 unfold ins
 rw[List.zip_append (by rw[List.length_take,List.length_take];omega),List.zip_cons_cons]
 simp only[List.zip,List.take_zipWith,List.drop_zipWith]
theorem put_ok(T:Tb t pl hs)(F:Found t pl hs)(hn:h∉hs)(jm:j<=t.mask)(jn:j∉pl)(R:Reach t pl h j)(room:hs.length+1<=t.mask):
  ∃p,p<=pl.length/\below t.place j=p/\t.put j=({ t with place:=(ins pl p j).toArray },p)/\Tb { t with place:=(ins pl p j).toArray } (ins pl p j) (ins hs p h)/\Found { t with place:=(ins pl p j).toArray } (ins pl p j) (ins hs p h):=by
 obtain⟨p,e0,h1,h2,h3⟩:=zk8 T.ris j
 have e:below t.place j=p:=by rw[T.plc];exact e0
 have hp:p<=hs.length:=by rw[<-T.len];exact h1
 refine⟨p,h1,e,?_,⟨T.full,T.dum,rfl,?_,by rw[ins_len h1,ins_len hp,T.len],fun x hx=>?_,?_,by rw[ins_len hp];exact room⟩,fun xh hx=>?_⟩
 ·unfold SetTable.put
  simp only[e]
  rw[T.plc,insertAt_eq,T.dum]
  have:has (#[]:Array Nat) j=false:=by unfold has;simp
  rw[this]
  simp
 ·intro i k hik a b ha hb
  rw[ins_get h1] at ha hb
  by_cases i1:i<p
  ·rw[if_pos i1] at ha
   by_cases k1:k<p
   ·rw[if_pos k1] at hb;exact T.ris i k hik a b ha hb
   ·rw[if_neg k1] at hb
    have ai:=h2 i a i1 ha
    by_cases k2:k=p
    ·rw[if_pos k2] at hb;cases hb;exact ai
    ·rw[if_neg k2] at hb
     have:=h3 (k-1) b (by omega) hb
     omega
  ·rw[if_neg i1] at ha
   rw[if_neg (by omega),if_neg (by omega)] at hb
   by_cases i2:i=p
   ·rw[if_pos i2] at ha
    cases ha
    have:=h3 (k-1) b (by omega) hb
    rcases Nat.lt_or_eq_of_le this with z|z
    ·exact z
    ·exact absurd (z▸List.mem_of_getElem? hb) jn
   ·rw[if_neg i2] at ha
    exact T.ris (i-1) (k-1) (by omega) a b ha hb
 ·rcases mem_ins.mp hx with rfl|hx
  ·exact jm
  ·exact T.le x hx
 ·unfold ins
  have nd:=T.nd
  rw[<-List.take_append_drop p hs] at nd hn
  rw[List.nodup_append] at nd⊢
  rw[List.mem_append,not_or] at hn
  refine⟨nd.1,List.nodup_cons.mpr ⟨hn.2,nd.2.1⟩,fun a ha b hb=>?_⟩
  rcases List.mem_cons.mp hb with rfl|hb
  ·exact fun z=>hn.1 (z▸ha)
  ·exact nd.2.2 a ha b hb
 ·rw[zr7 T.len h1] at hx
  rcases mem_ins.mp hx with rfl|hx
  ·exact R.more (fun y hy=>mem_ins.mpr (.inr hy)) rfl
  ·exact (F xh hx).more (fun y hy=>mem_ins.mpr (.inr hy)) rfl
end
end L2.LW.ST
set_option maxHeartbeats 4000000
namespace L2.LW.ST
open PySem PySem.SetTable
noncomputable def Oc(ow:Array (Option Nat))(x:Nat):Prop:=(ow.getD x (some 0)).isNone=false
section
variable {t:SetTable} {h:Int} {ow:Array (Option Nat)}
theorem znO: ∀(fuel k n:Nat),n<=10*k->adv t n (t.probeStart h)=at_ t none (base t.mask (bits h) k)->(∀r,r<n->Oc ow (adv t r (t.probeStart h)).j)->
  (∃K,k<=K/\K<k+fuel/\¬Oc ow (base t.mask (bits h) K).1)->
  ∃j n',layClean.free t.mask ow fuel (base t.mask (bits h) k).1 (base t.mask (bits h) k).2=some j/\¬Oc ow j/\n'<10*(k+fuel)/\(adv t n' (t.probeStart h)).j=j/\∀r,r<n'->Oc ow (adv t r (t.probeStart h)).j
 |0,k,n,_,_,_,hK=>by obtain⟨K,a,b,_⟩:=hK;omega
 |fuel+1,k,n,hn,ha,ho,hK=>by
  have ml:=znL (m:=t.mask) (i:=(base t.mask (bits h) k).1)
  have run: ∀d,d<=runEnd t.mask (base t.mask (bits h) k).1-(base t.mask (bits h) k).1->(adv t (n+d) (t.probeStart h)).j=(base t.mask (bits h) k).1+d:=fun d hd=>by
   rw[zdN,ha,zhE (p:=at_ t none (base t.mask (bits h) k)) d hd];rfl
  have le:(base t.mask (bits h) k).1<=runEnd t.mask (base t.mask (bits h) k).1:=by unfold runEnd;split<;>omega
  unfold layClean.free
  cases hf:(List.range (runEnd t.mask (base t.mask (bits h) k).1+1-(base t.mask (bits h) k).1)).find? fun d=>(ow.getD ((base t.mask (bits h) k).1+d) (some 0)).isNone with
  |some d=>
   rw[List.find?_range_eq_some] at hf
   obtain⟨f1,f2,f3⟩:=hf
   rw[List.mem_range] at f2
   refine⟨_,n+d,rfl,fun z=>?_,by omega,run d (by omega),fun r hr=>?_⟩
   ·unfold Oc at z;rw[f1] at z;cases z
   ·by_cases c:r<n
    ·exact ho r c
    ·obtain⟨e,rfl⟩: ∃e,r=n+e:=⟨r-n,by omega⟩
     rw[run e (by omega)]
     have:=f3 e (by omega)
     unfold Oc
     simpa using this
  |none=>
   rw[List.find?_range_eq_none] at hf
   have all: ∀d,d<=runEnd t.mask (base t.mask (bits h) k).1-(base t.mask (bits h) k).1->Oc ow ((base t.mask (bits h) k).1+d):=fun d hd=>by
    have:=hf d (by omega)
    unfold Oc
    simpa using this
   obtain⟨K,a,b,c⟩:=hK
   have ne:K≠k:=fun z=>c (by subst z;exact all 0 (Nat.zero_le _))
   have:=znO fuel (k+1) (n+(runEnd t.mask (base t.mask (bits h) k).1-(base t.mask (bits h) k).1)+1) (by omega) (by
    rw[zdN,zdN,ha,zhE (p:=at_ t none (base t.mask (bits h) k)) (runEnd t.mask (base t.mask (bits h) k).1-(base t.mask (bits h) k).1) (Nat.le_refl _)]
    show t.advance _=_
    unfold SetTable.advance
    rw[if_neg (by simp[at_])]
    rfl) (fun r hr=>by
     by_cases c:r<n
     ·exact ho r c
     ·obtain⟨e,rfl⟩: ∃e,r=n+e:=⟨r-n,by omega⟩
      rw[run e (by omega)]
      exact all e (by omega)) ⟨K,by omega,by omega,c⟩
   obtain⟨j,n',w1,w2,w3,w4,w5⟩:=this
   exact⟨j,n',w1,w2,by omega,w4,w5⟩
end
structure Lay (t:SetTable)(ow:Array (Option Nat))(sl:List Nat)(hs:List Int):Prop where
 size:ow.size=t.mask+1
 len:sl.length=hs.length
 at_: ∀x q:Nat,ow[x]? =some (some q)↔sl[q]? =some x
 le: ∀x∈sl,x<=t.mask
 nd:sl.Nodup
 rc: ∀xh∈sl.zip hs,Reach t sl xh.2 xh.1
section
variable {t:SetTable} {ow:Array (Option Nat)} {sl:List Nat} {hs:List Int}
theorem Lay.oc(L:Lay t ow sl hs){x:Nat}(hx:x<=t.mask):Oc ow x↔x∈sl:=by
 have hs1:x<ow.size:=by rw[L.size];omega
 unfold Oc
 rw[Array.getD_eq_getD_getElem?,Array.getElem?_eq_getElem hs1]
 show (ow[x]).isNone=false↔_
 constructor
 ·intro h
  cases e:ow[x] with
  |none=>rw[e] at h;cases h
  |some q=>exact List.mem_of_getElem? ((L.at_ x q).mp (by rw[Array.getElem?_eq_getElem hs1,e]))
 ·intro h
  obtain⟨q,hq,e⟩:=List.mem_iff_getElem.mp h
  have:=(L.at_ x q).mpr (by rw[List.getElem?_eq_getElem hq,e])
  rw[Array.getElem?_eq_getElem hs1] at this
  rw[Option.some.inj this];rfl
theorem zpF(L:Lay t ow sl hs)(F:Full t.mask)(hl:sl.length<=t.mask)(h:Int):
  ∃j,layClean.free t.mask ow (turns t.mask) (bits h%(t.mask+1)) (bits h)=some j/\Lay t (ow.setIfInBounds j (some sl.length)) (sl++[j]) (hs++[h]):=by
 have hs0: ∃s,s<=t.mask/\s∉sl:=by
  refine Classical.byContradiction fun z=>?_
  have:=ziZ (l:=sl) (n:=t.mask+1) fun s hs=>Classical.byContradiction fun y=>z ⟨s,by omega,y⟩
  omega
 obtain⟨s,s1,s2⟩:=hs0
 have hb:bits h<2 ^ 64:=by
  unfold bits
  have:=Int.emod_lt_of_pos h (show (0:Int)<2 ^ 64 by decide)
  have:=Int.emod_nonneg h (show (2 ^ 64:Int)≠0 by decide)
  omega
 obtain⟨K,k1,k2⟩:=zk6 (b:=bits h) F hb s1
 obtain⟨j,n,w1,w2,w3,w4,w5⟩:=znO (t:=t) (h:=h) (ow:=ow) (turns t.mask) 0 0 (Nat.le_refl _) rfl (fun r hr=>by omega) ⟨K,Nat.zero_le _,by unfold turns;omega,by rw[k2];exact fun z=>s2 ((L.oc s1).mp z)⟩
 have jm:j<=t.mask:=by rw[<-w4];exact znM t h n
 have jn:j∉sl:=fun z=>w2 ((L.oc jm).mpr z)
 have js:j<ow.size:=by rw[L.size];omega
 have rj:Reach t sl h j:=⟨n,by simpa using w3,w4,fun k hk=>(L.oc (znM t h k)).mp (w5 k hk)⟩
 refine⟨j,w1,⟨by simp[L.size],by simp[L.len],fun x q=>?_,fun x hx=>?_,?_,fun xh hx=>?_⟩⟩
 ·rw[Array.getElem?_setIfInBounds]
  by_cases e:j=x
  ·subst e
   rw[if_pos rfl,if_pos js]
   constructor
   ·intro z
    cases z
    rw[List.getElem?_append_right (Nat.le_refl _),Nat.sub_self];rfl
   ·intro z
    rw[List.getElem?_append] at z
    split at z
    ·exact absurd (List.mem_of_getElem? z) jn
    ·rename_i c
     have:=(List.getElem?_eq_some_iff.mp z).1
     simp only[List.length_singleton] at this
     have:q=sl.length:=by omega
     rw[this]
  ·rw[if_neg e,L.at_]
   constructor
   ·intro z
    rw[List.getElem?_append_left (List.getElem?_eq_some_iff.mp z).1];exact z
   ·intro z
    rw[List.getElem?_append] at z
    split at z
    ·exact z
    ·rename_i c
     have:=List.mem_of_getElem? z
     rw[List.mem_singleton] at this
     exact absurd this.symm e
 ·rcases List.mem_append.mp hx with hx|hx
  ·exact L.le x hx
  ·rw[List.mem_singleton] at hx;rw[hx];exact jm
 ·rw[List.nodup_append]
  exact⟨L.nd,by simp,fun a ha b hb=>by rw[List.mem_singleton] at hb;rw[hb];exact fun z=>jn (z▸ha)⟩
 ·rw[List.zip_append L.len] at hx
  rcases List.mem_append.mp hx with hx|hx
  ·exact (L.rc xh hx).more (fun y hy=>List.mem_append_left _ hy) rfl
  ·have:xh=(j,h):=by simpa using hx
   rw[this]
   exact rj.more (fun y hy=>List.mem_append_left _ hy) rfl
theorem zk9(F:Full t.mask): ∀(zch:List Int) (ow:Array (Option Nat)) (sl:List Nat) (hs:List Int),Lay t ow sl hs->hs.length+zch.length<=t.mask->
  ∃ow' sl',(zch.foldl (fun (acc:Option (Array (Option Nat)×Nat)) h=>do
   let (owner,k) <-acc
   let j <-layClean.free t.mask owner (turns t.mask) (bits h%(t.mask+1)) (bits h)
   pure (owner.setIfInBounds j (some k),k+1)) (some (ow,sl.length)))=some (ow',sl'.length)/\Lay t ow' sl' (hs++zch)
 |[],ow,sl,hs,L,_=>⟨ow,sl,rfl,by rw[List.append_nil];exact L⟩
 |h::zch,ow,sl,hs,L,hl=>by
  rw[List.length_cons] at hl
  obtain⟨j,e,L'⟩:=zpF L F (by rw[L.len];omega) h
  obtain⟨ow',sl',e2,L2⟩:=zk9 F zch _ _ _ L' (by simp;omega)
  refine⟨ow',sl',?_,by rw[List.append_assoc] at L2;exact L2⟩
  rw[List.foldl_cons]
  rw[List.length_append,List.length_singleton] at e2
  rw[<-e2]
  congr 1
  show (layClean.free t.mask ow (turns t.mask) (bits h%(t.mask+1)) (bits h)).bind _=_
  rw[e];rfl
end
end L2.LW.ST
set_option maxHeartbeats 4000000
namespace L2.LW.ST
open PySem PySem.SetTable
theorem znP(hs:List Int):(List.range hs.length).map (hat hs)=hs:=by
 apply List.ext_getElem
 ·simp
 ·intro i h1 h2
  simp[hat,List.getElem?_eq_getElem h2]
theorem laid_ok{m fg mv:Nat}{ld pn:Bool}(F:Full m){hs:List Int}(nd:hs.Nodup)(hl:hs.length<=m):
  ∃lv:List (Nat×Nat),laid m fg mv ld pn hs.toArray=some ({ mask:=m,place:=(lv.map (·.1)).toArray,dummies:= #[],finger:=fg,led:=ld,moves:=mv,plain:=pn },(lv.map (·.2)).toArray)/\
   Tb { mask:=m,place:=(lv.map (·.1)).toArray,dummies:= #[],finger:=fg,led:=ld,moves:=mv,plain:=pn } (lv.map (·.1)) ((lv.map (·.2)).map (hat hs))/\
   Found { mask:=m,place:=(lv.map (·.1)).toArray,dummies:= #[],finger:=fg,led:=ld,moves:=mv,plain:=pn } (lv.map (·.1)) ((lv.map (·.2)).map (hat hs))/\(lv.map (·.2)).Perm (List.range hs.length):=by
 let t0:SetTable:={ mask:=m,place:= #[],dummies:= #[],finger:=fg,led:=ld,moves:=mv,plain:=pn }
 have L0:Lay t0 (Array.replicate (m+1) none) [] []:=by
  refine⟨by simp[t0],rfl,fun x q=>?_,fun x hx=>(nomatch hx),List.nodup_nil,fun x hx=>(nomatch hx)⟩
  rw[Array.getElem?_replicate]
  constructor
  ·intro z;split at z<;>cases z
  ·intro z;cases z
 obtain⟨ow,sl,e1,L⟩:=zk9 (t:=t0) F hs _ _ _ L0 (by simpa using hl)
 rw[List.nil_append] at L
 have e2:layClean m hs.toArray=some ow:=by
  unfold layClean
  rw[<-Array.foldl_toList]
  have e1':=e1
  simp only[List.length_nil] at e1'
  exact (congrArg (Option.map (·.1)) e1').trans rfl
 let lv:List (Nat×Nat):=(List.range (m+1)).filterMap fun j=>(ow.getD j none).map (j,·)
 have mem: ∀x q,(x,q)∈lv↔sl[q]? =some x:=fun x q=>by
  rw[<-L.at_]
  simp only[lv,List.mem_filterMap,List.mem_range,jo2,Prod.mk.injEq]
  constructor
  ·rintro⟨j,h1,q2,h2,rfl,rfl⟩
   rw[Array.getD_eq_getD_getElem?] at h2
   cases e:ow[j]? with
   |none=>rw[e] at h2;cases h2
   |some o=>rw[e] at h2;have h2:o=some q2:=h2;rw[h2]
  ·intro h
   have hx:x<ow.size:=(Array.getElem?_eq_some_iff.mp h).1
   refine⟨x,by rw[L.size] at hx;exact hx,q,?_,rfl,rfl⟩
   rw[Array.getD_eq_getD_getElem?,h];rfl
 have pw:lv.Pairwise fun a b=>a.1<b.1:=by
  rw[List.pairwise_filterMap]
  refine List.pairwise_lt_range.imp fun {a b} hab c hc d hd=>?_
  obtain⟨_,_,rfl⟩:=jo2.mp hc
  obtain⟨_,_,rfl⟩:=jo2.mp hd
  exact hab
 have lt: ∀x q,sl[q]? =some x->q<hs.length:=fun x q h=>by rw[<-L.len];exact (List.getElem?_eq_some_iff.mp h).1
 have nd2:(lv.map (·.2)).Nodup:=by
  unfold List.Nodup
  rw[List.pairwise_map]
  refine pw.imp_of_mem fun {a b} ha hb hab z=>?_
  have h1:=(mem a.1 a.2).mp ha
  have h2:=(mem b.1 b.2).mp hb
  have z:a.2=b.2:=z
  rw[z,h2] at h1
  have:=Option.some.inj h1
  omega
 have pm:(lv.map (·.2)).Perm (List.range hs.length):=by
  rw[List.perm_ext_iff_of_nodup nd2 List.nodup_range]
  intro q
  rw[List.mem_map,List.mem_range]
  constructor
  ·rintro⟨z,hz,rfl⟩;exact lt _ _ ((mem z.1 z.2).mp hz)
  ·intro hq
   have hq':q<sl.length:=by rw[L.len];exact hq
   exact⟨(sl[q],q),(mem _ _).mpr (List.getElem?_eq_getElem hq'),rfl⟩
 refine⟨lv,?_,⟨F,rfl,rfl,?_,by simp,fun x hx=>?_,?_,?_⟩,fun xh hx=>?_,pm⟩
 ·unfold laid
  rw[e2];rfl
 ·intro i j hij a b ha hb
  have p2:(lv.map (·.1)).Pairwise (· < ·):=by rw[List.pairwise_map];exact pw
  obtain⟨l1,w1⟩:=List.getElem?_eq_some_iff.mp ha
  obtain⟨l2,w2⟩:=List.getElem?_eq_some_iff.mp hb
  have:=List.pairwise_iff_getElem.mp p2 i j l1 l2 hij
  rw[w1,w2] at this;exact this
 ·obtain⟨z,hz,rfl⟩:=List.mem_map.mp hx
  exact L.le _ (List.mem_of_getElem? ((mem z.1 z.2).mp hz))
 ·have:=(pm.map (hat hs)).nodup_iff
  rw[znP] at this
  exact this.mpr nd
 ·rw[List.length_map,pm.length_eq,List.length_range];exact hl
 ·obtain⟨i,hi,e⟩:=List.mem_iff_getElem.mp hx
  have hi1:i<lv.length:=by simpa using hi
  have e3:xh=(lv[i].1,hat hs lv[i].2):=by rw[<-e];simp
  have hm:=(mem lv[i].1 lv[i].2).mp (List.getElem_mem hi1)
  have hq:=lt _ _ hm
  have hh:hs[lv[i].2]? =some (hat hs lv[i].2):=by unfold hat;rw[List.getElem?_eq_getElem hq];rfl
  rw[e3]
  refine (L.rc (lv[i].1,hat hs lv[i].2) (List.mem_of_getElem? (i:=lv[i].2) (by rw[List.getElem?_zip_eq_some];exact⟨hm,hh⟩))).more (fun y hy=>?_) rfl
  obtain⟨q,hq2,e4⟩:=List.mem_iff_getElem.mp hy
  exact List.mem_map.mpr ⟨(y,q),(mem y q).mpr (by rw[List.getElem?_eq_getElem hq2,e4]),rfl⟩
end L2.LW.ST
set_option maxHeartbeats 4000000
namespace L2.LW
open PySem PySem.Spec PySem.W PySem.Calls PyProof.Rows
noncomputable def zcl(w:World):Bool:=w.params.followText "set-order"
structure Plain2 {prog:Program}{w:World}{K:Type}[DecidableEq K](knd:HeapKind prog w K)(nice:K->Prop):Prop where
 nocls: ∀{A:Around} {E:Value->Shared->Prop} {s:Shared} {k:K} {a:Addr} {Q:Bool->Shared->Prop},knd.is s.heap k a->Q false s->wpAny (model prog w) A (ofAClassStatement 8 (.ref a)) Q E s
 byval: ∀{A:Around} {E:Value->Shared->Prop} {s:Shared} {k:K} {a:Addr} {Q:Bool->Shared->Prop},knd.is s.heap k a->(∀b,(nice k->b=true)->Q b s)->wpAny (model prog w) A (hashByValue 8 (.ref a)) Q E s
 keep: ∀{h h':Heap} {k:K} {a d:Addr} {o:Obj} {es ep t},knd.is h k a->h.get? d=some o->o.data= .set es ep t->Heap.SameBut d h h'->knd.is h' k a
section
variable {prog:Program} {w:World} {K:Type} [DecidableEq K] {knd:HeapKind prog w K} {nice:K->Prop} {A:Around} {E:Value->Shared->Prop} {s:Shared}
noncomputable def zoZ(knd:HeapKind prog w K)(z:K×Addr):Int×Value:=(knd.hash z.1,.ref z.2)
noncomputable def hsC(knd:HeapKind prog w K)(xs:List (K×Addr)):List Int:=xs.map fun z=>knd.hash z.1
theorem zeG{α β:Type}{M:Model}{f:α->β->Sem (ForInStep β)}{b0:β}: ∀(ys:List α) {Q:β->Shared->Prop},(∀y∈ys,∀Q1:ForInStep β->Shared->Prop,Q1 (.yield b0) s->wpAny M A (f y b0) Q1 E s)->Q b0 s->wpAny M A (forIn ys b0 f) Q E s
 |[],Q,_,q=>wpAny_pure q
 |y::ys,Q,h,q=>by
  rw[List.forIn_cons]
  exact wpAny_bind (h y (List.mem_cons_self ..) _ (zeG ys (fun z hz=>h z (List.mem_cons_of_mem _ hz)) q))
theorem zuj(P:Plain2 knd nice){k:K}{b:Addr}(hb:knd.is s.heap k b)(ys:List Value){Q:Bool->Shared->Prop}(hy: ∀y∈ys,∃(k':K) (c:Addr),y= .ref c/\knd.is s.heap k' c)(q:Q false s):
  wpAny (model prog w) A (searchCouldBeSeen (.ref b) ys) Q E s:=by
 unfold searchCouldBeSeen
 refine wpAny_bind (zeG ys (fun y hm Q1 q1=>?_) (wpAny_pure q))
 obtain⟨k',c,rfl,hc⟩:=hy y hm
 dsimp only
 split
 ·exact wpAny_pure q1
 ·refine wpAny_bind (knd.quiet hb ?_)
  rw[if_neg (by decide)]
  refine wpAny_bind (knd.quiet hc ?_)
  rw[if_neg (by decide)]
  refine wpAny_bind (P.nocls hb ?_)
  rw[if_neg (by decide)]
  refine wpAny_bind (P.nocls hc ?_)
  rw[if_neg (by decide)]
  exact wpAny_pure q1
theorem zhH{t:SetTable}{pl:List Nat}{hs:List Int}{es:Array (Int×Value)}(T:ST.Tb t pl hs)(e:es.toList.length=hs.length):t.fits es.size=true:=by
 unfold SetTable.fits SetTable.fill
 rw[T.plc,T.dum]
 simp only[List.size_toArray,Bool.and_eq_true,beq_iff_eq,decide_eq_true_eq]
 rw[<-Array.length_toList,e,T.len]
 exact⟨rfl,by simpa using T.room⟩
theorem znQ(P:Plain2 knd nice){a:Addr}{o:Obj}{es:Array (Int×Value)}{ep:Nat}{t:SetTable}{pl:List Nat}{xs:List (K×Addr)}{k:K}{b:Addr}{Q:SetFound->Shared->Prop}
  (ho:s.heap.get? a=some o) (hd:o.data= .set es ep t) (he:es.toList=xs.map (zoZ knd)) (al: ∀z∈xs,knd.is s.heap z.1 z.2) (T:ST.Tb t pl (hsC knd xs)) (F:ST.Found t pl (hsC knd xs)) (odd:t.gaveWay=false)
  (hu:knd.room A) (hb:knd.is s.heap k b) (inj: ∀z∈xs,knd.hash z.1=knd.hash k->z.1=k)
  (qn:(∀z∈xs,z.1≠k)->∀j,j<=t.mask->j∉pl->ST.Reach t pl (knd.hash k) j->Q (.free j false) s) (qo:(∃z∈xs,z.1=k)->Q (.there none) s):
  wpAny (model prog w) A (setSearch a (.ref b) (knd.hash k) true) Q E s:=by
 have fit:=zhH (es:=es) T (by rw[he];simp[hsC])
 have hat: ∀i,(es[i]?.map (·.1)).getD 0=ST.hat (hsC knd xs) i:=fun i=>by
  unfold ST.hat hsC
  rw[<-Array.getElem?_toList,he,List.getElem?_map,List.getElem?_map]
  cases xs[i]? <;>rfl
 show wpAny _ _ (setSearchFrom a (.ref b) (knd.hash k) true (99999+1) none) _ _ _
 rw[setSearchFrom]
 refine wpAny_bind (wpAny_setState_of ho hd fit ?_)
 dsimp only
 rw[odd,if_neg (by decide)]
 by_cases hk: ∃z∈xs,z.1=k
 ·obtain⟨z,hz,rfl⟩:=hk
  obtain⟨q,hq,ez⟩:=List.mem_iff_getElem.mp hz
  have e1:xs[q]? =some z:=by rw[List.getElem?_eq_getElem hq,ez]
  have hpl:q<pl.length:=by rw[T.len];simpa [hsC] using hq
  obtain⟨nx,pr⟩:=ST.probe_old T F (List.getElem?_eq_getElem hpl) (show (hsC knd xs)[q]? =some (knd.hash z.1) by unfold hsC;rw[List.getElem?_map,e1];rfl)
  split
  case h_2 z2=>exact (z2 _ ((congrArg (fun g=>t.probe g (knd.hash z.1) (t.probeStart (knd.hash z.1))) (funext fun i=>hat i)).trans pr)).elim
  rename_i met z2
  have em:met= .candidate pl[q] q nx:=by
   have:=((congrArg (fun g=>t.probe g (knd.hash z.1) (t.probeStart (knd.hash z.1))) (funext fun i=>hat i)).symm.trans z2).symm.trans pr
   exact Option.some.inj this
  subst em
  dsimp only
  have e2:es[q]? =some (knd.hash z.1,.ref z.2):=by rw[<-Array.getElem?_toList,he,List.getElem?_map,e1];rfl
  have ys: ∀y∈((es.filter (·.1==knd.hash z.1)).toList.map (·.2)),∃(k':K) (c:Addr),y= .ref c/\knd.is s.heap k' c:=fun y hy=>by
   obtain⟨e,h1,rfl⟩:=List.mem_map.mp hy
   rw[Array.toList_filter,List.mem_filter,he,List.mem_map] at h1
   obtain⟨⟨z3,h3,rfl⟩,_⟩:=h1
   exact⟨z3.1,z3.2,rfl,al z3 h3⟩
  have q0:=qo ⟨z,hz,rfl⟩
  split
  ·refine wpAny_bind (zuj P hb _ ys ?_)
   rw[if_neg (by decide),e2]
   refine wpAny_bind (wpAny_holding (knd.eqBool hu (al z hz) hb ?_))
   refine wpAny_bind (wpAny_setState_of ho hd fit ?_)
   rw[if_pos (by simp)]
   exact wpAny_pure q0
  ·rw[e2]
   refine wpAny_bind (wpAny_holding (knd.eqBool hu (al z hz) hb ?_))
   refine wpAny_bind (wpAny_setState_of ho hd fit ?_)
   rw[if_pos (by simp)]
   exact wpAny_pure q0
 ·have nk: ∀z∈xs,z.1≠k:=fun z hz e=>hk ⟨z,hz,e⟩
  have nh:knd.hash k∉hsC knd xs:=fun z=>by
   obtain⟨z1,h1,h2⟩:=List.mem_map.mp z
   exact nk z1 h1 (inj z1 h1 h2)
  obtain⟨j,j1,j2,j3,pr⟩:=ST.probe_new T nh
  split
  case h_2 z2=>exact (z2 _ ((congrArg (fun g=>t.probe g (knd.hash k) (t.probeStart (knd.hash k))) (funext fun i=>hat i)).trans pr)).elim
  rename_i met z2
  have em:met= .empty j none:=by
   have:=((congrArg (fun g=>t.probe g (knd.hash k) (t.probeStart (knd.hash k))) (funext fun i=>hat i)).symm.trans z2).symm.trans pr
   exact Option.some.inj this
  subst em
  exact wpAny_pure (qn nk j j1 j2 j3)
noncomputable def Roomy(t:SetTable)(n:Nat):Prop:=(t.mask=7/\n<=4)\/(t.mask=31/\n<=18)\/(t.mask=127/\n<=76)
structure SetC (knd:HeapKind prog w K)(nice:K->Prop)(h:Heap)(a:Addr)(xs:List (K×Addr)):Prop where
 ex: ∃o es ep t pl,h.get? a=some o/\o.ExactSet/\o.data= .set es ep t/\es.toList=xs.map (zoZ knd)/\ST.Tb t pl (hsC knd xs)/\ST.Found t pl (hsC knd xs)/\Roomy t xs.length/\t.led=(!zcl w)/\((∀z∈xs,nice z.1)->t.plain=true)
 al: ∀z∈xs,knd.is h z.1 z.2
theorem Roomy.odd{t:SetTable}{n:Nat}(r:Roomy t n):t.gaveWay=false:=by
 unfold SetTable.gaveWay
 rcases r with ⟨e,_⟩|⟨e,_⟩|⟨e,_⟩<;>rw[e]<;>rfl
theorem zuk{h:Heap}{a:Addr}{o:Obj}{es es':Array (Int×Value)}{ep:Nat}{t t':SetTable}(ho:h.get? a=some o)(hd:o.data= .set es ep t):
  (h.update a (Obj.putSet es' t')).get? a=some { o with data:=.set es' (ep+1) t' }:=by
 have z:=Heap.get?_update_self (Obj.putSet es' t') ho (by rw[putSet_of es' t' hd];rfl)
 rw[putSet_of es' t' hd] at z
 exact z
theorem znR(xs:List (K×Addr)): ∀l:List Nat,(∀q∈l,q<xs.length)->hsC knd (l.filterMap (xs[·]?))=l.map (ST.hat (hsC knd xs))
 |[],_=>rfl
 |q::l,h=>by
  have hq:=h q (List.mem_cons_self ..)
  have ih:=znR xs l fun z hz=>h z (List.mem_cons_of_mem _ hz)
  rw[List.filterMap_cons,List.getElem?_eq_getElem hq]
  show knd.hash (xs[q]).1::hsC knd _=_
  rw[ih,List.map_cons]
  congr 1
  unfold ST.hat hsC
  rw[List.getElem?_map,List.getElem?_eq_getElem hq];rfl
theorem zi1{α:Type}(xs:List α): ∀n:Nat,(List.range n).filterMap (xs[·]?)=xs.take n
 |0=>by simp
 |n+1=>by
  rw[List.range_succ,List.filterMap_append,zi1 xs n,List.take_add_one]
  congr 1
theorem zpG{α:Type}(xs:List α):(List.range xs.length).filterMap (xs[·]?)=xs:=by rw[zi1,List.take_length]
theorem zpH(P:Plain2 knd nice){a:Addr}{o:Obj}{es:Array (Int×Value)}{ep:Nat}{t:SetTable}{xs:List (K×Addr)}{n m:Nat}{Q:Unit->Shared->Prop}
  (ho:s.heap.get? a=some o) (hx:o.ExactSet) (hd:o.data= .set es ep t) (he:es.toList=xs.map (zoZ knd)) (al: ∀z∈xs,knd.is s.heap z.1 z.2) (fit:t.fits es.size=true) (nd:(hsC knd xs).Nodup)
  (hm:SetTable.sizeAbove n=m+1) (F:ST.Full m) (hl:xs.length<=m) (big:m+1<=1000) (ro: ∀t':SetTable,t'.mask=m->Roomy t' xs.length) (fl:t.led=(!zcl w)) (fp:(∀z∈xs,nice z.1)->t.plain=true)
  (q: ∀h' ys,ys.Perm xs->SetC knd nice h' a ys->Heap.SameBut a s.heap h'->Q () { s with heap:=h' }):wpAny (model prog w) A (setRelay a n) Q E s:=by
 unfold setRelay
 refine wpAny_bind (wpAny_setState_of ho hd fit ?_)
 dsimp only
 rw[hm,if_neg (by rw[sizeLine_eq];omega)]
 have eh:es.map (·.1)=(hsC knd xs).toArray:=by
  apply Array.ext'
  rw[Array.toList_map,he,List.map_map];rfl
 obtain⟨lv,e1,T,Fd,pm⟩:=ST.laid_ok (m:=m) (fg:=t.finger) (mv:=t.movedTo m) (ld:=t.led) (pn:=t.plain) F nd (by simpa [hsC] using hl)
 obtain⟨t2,e1,T,Fd,em,el,ep2⟩: ∃t2,SetTable.laid m t.finger (t.movedTo m) t.led t.plain (hsC knd xs).toArray=some (t2,(lv.map (·.2)).toArray)/\ST.Tb t2 (lv.map (·.1)) ((lv.map (·.2)).map (ST.hat (hsC knd xs)))/\
   ST.Found t2 (lv.map (·.1)) ((lv.map (·.2)).map (ST.hat (hsC knd xs)))/\t2.mask=m/\t2.led=t.led/\t2.plain=t.plain:=⟨_,e1,T,Fd,rfl,rfl,rfl⟩
 have er:t.relaid (es.map (·.1)) n=some (t2,(lv.map (·.2)).toArray):=by
  unfold SetTable.relaid
  rw[hm,Nat.add_sub_cancel,eh]
  exact e1
 have lq: ∀q∈lv.map (·.2),q<xs.length:=fun q hq=>by simpa [hsC] using pm.mem_iff.mp hq
 have py:((lv.map (·.2)).filterMap (xs[·]?)).Perm xs:=by
  have:=pm.filterMap (xs[·]?)
  rw[show (hsC knd xs).length=xs.length by simp[hsC],zpG] at this
  exact this
 have hy:hsC knd ((lv.map (·.2)).filterMap (xs[·]?))=(lv.map (·.2)).map (ST.hat (hsC knd xs)):=znR xs _ lq
 have e2:(lv.map (·.2)).toArray.filterMap (es[·]?)=(((lv.map (·.2)).filterMap (xs[·]?)).map (zoZ knd)).toArray:=by
  apply Array.ext'
  rw[Array.toList_filterMap,List.map_filterMap]
  congr 1
  funext q
  rw[<-Array.getElem?_toList,he,List.getElem?_map]
 have sz:((lv.map (·.2)).toArray.filterMap (es[·]?)).size=es.size:=by
  rw[e2,List.size_toArray,List.length_map,py.length_eq,<-Array.length_toList,he,List.length_map]
 rw[er]
 refine wpAny_bind (wpAny_of_eq (a:=((lv.map (·.2)).toArray.filterMap (es[·]?),t2)) ?_ ?_)
 ·show (if (((lv.map (·.2)).toArray.filterMap (es[·]?)).size != es.size)=true then (_:Sem (Array (Int×Value)×SetTable)) else _)=_
  rw[if_neg (by rw[sz];simp)]
 ·dsimp only
  refine wpAny_storeSet_of ho hd ?_ (by rw[sz,<-Array.length_toList,he,List.length_map,sizeLine_eq];omega)
  refine q _ _ py ⟨⟨_,_,_,t2,lv.map (·.1),zuk ho hd,hx,rfl,by rw[e2],by rw[hy];exact T,by rw[hy];exact Fd,by rw[py.length_eq];exact ro t2 em,by rw[el];exact fl,fun hn=>by rw[ep2];exact fp fun z hz=>hn z (py.mem_iff.mpr hz)⟩,fun z hz=>?_⟩ (Heap.SameBut.update ..)
  exact P.keep (al z (py.mem_iff.mp hz)) ho hd (Heap.SameBut.update ..)
theorem zpI{t:SetTable}{pl:List Nat}{hs:List Int}(T:ST.Tb t pl hs)(F:ST.Found t pl hs)(v:Bool):ST.Tb { t with plain:=v } pl hs/\ST.Found { t with plain:=v } pl hs:=
 ⟨⟨T.full,T.dum,T.plc,T.ris,T.len,T.le,T.nd,T.room⟩,fun xh hx=>(F xh hx).more (fun _ z=>z) rfl⟩
theorem znS{xs:List (K×Addr)}{p:Nat}{z:K×Addr}:hsC knd (ST.ins xs p z)=ST.ins (hsC knd xs) p (knd.hash z.1):=by
 unfold hsC ST.ins
 rw[List.map_append,List.map_cons,List.map_take,List.map_drop]
theorem zpJ{α:Type}(xs:List α)(p:Nat)(z:α):(ST.ins xs p z).Perm (z::xs):=by
 unfold ST.ins
 refine List.perm_middle.trans (List.Perm.cons _ ?_)
 rw[List.take_append_drop]
theorem zul(P:Plain2 knd nice){a:Addr}{xs:List (K×Addr)}{k:K}{b:Addr}{Q:Bool->Shared->Prop}(S:SetC knd nice s.heap a xs)(hu:knd.room A)(hb:knd.is s.heap k b)(inj: ∀z∈xs,knd.hash z.1=knd.hash k->z.1=k)(few:xs.length<76)
  (qo:(∃z∈xs,z.1=k)->Q false s) (qn:(∀z∈xs,z.1≠k)->∀h' ys,ys.Perm ((k,b)::xs)->SetC knd nice h' a ys->Heap.SameBut a s.heap h'->Q true { s with heap:=h' }):
  wpAny (model prog w) A (setAddHashed a (.ref b) (knd.hash k)) Q E s:=by
 obtain⟨⟨o,es,ep,t,pl,ho,hx,hd,he,T,F,ro,fl,fp⟩,al⟩:=S
 have fit:=zhH (es:=es) T (by rw[he];simp[hsC])
 have esz:es.size=xs.length:=by rw[<-Array.length_toList,he,List.length_map]
 unfold setAddHashed
 refine wpAny_holding ?_
 show wpAny _ _ (setAddHashedIn a (.ref b) (knd.hash k) (99999+1)) _ _ _
 rw[setAddHashedIn]
 refine wpAny_bind (wpAny_setState_of ho hd fit ?_)
 dsimp only
 rw[if_neg (show ¬(byScan (.ref b) es=true) from fun z=>by cases z)]
 refine wpAny_bind (znQ P ho hd he al T F ro.odd hu hb inj (fun nk j jm jn R=>?_) fun ok=>wpAny_pure (qo ok))
 have nh:knd.hash k∉hsC knd xs:=fun z=>by
  obtain⟨z1,h1,h2⟩:=List.mem_map.mp z
  exact nk z1 h1 (inj z1 h1 h2)
 have rm:(hsC knd xs).length+1<=t.mask:=by
  have:(hsC knd xs).length=xs.length:=by simp[hsC]
  rcases ro with ⟨e,h⟩|⟨e,h⟩|⟨e,h⟩<;>omega
 obtain⟨p,p1,p2,p3,T1,F1⟩:=ST.put_ok T F nh jm jn R rm
 dsimp only
 refine wpAny_bind (wpAny_setState_of ho hd fit ?_)
 dsimp only
 rw[p3]
 dsimp only
 have ei:SetTable.insertAt es p (knd.hash k,Value.ref b)=((ST.ins xs p (k,b)).map (zoZ knd)).toArray:=by
  obtain⟨l⟩:=es
  have he:l=xs.map (zoZ knd):=he
  rw[he,ST.insertAt_eq]
  unfold ST.ins
  rw[List.map_append,List.map_cons,List.map_take,List.map_drop]
  rfl
 have pz:p<=xs.length:=by rw[T.len] at p1;simpa [hsC] using p1
 have al1: ∀z∈ST.ins xs p (k,b),knd.is s.heap z.1 z.2:=fun z hz=>by
  rcases ST.mem_ins.mp hz with rfl|hz
  ·exact hb
  ·exact al z hz
 have pm:=zpJ xs p (k,b)
 have nd1:(hsC knd (ST.ins xs p (k,b))).Nodup:=by rw[znS];exact T1.nd
 have zch: ∀v:Bool,((∀z∈ST.ins xs p (k,b),nice z.1)->v=true)->wpAny (model prog w) A (storeSet a (SetTable.insertAt es p (knd.hash k,Value.ref b)) { t with place:=(ST.ins pl p j).toArray,plain:=v }) (fun _ s1=>wpAny (model prog w) A
   (if (!false&&({ t with place:=(ST.ins pl p j).toArray,plain:=v }:SetTable).tooFull)=true then (do setRelay a (SetTable.grown (es.size+1));pure true) else pure true) Q E s1) E s:=fun v hv=>by
  obtain⟨T2,F2⟩:=zpI T1 F1 v
  rw[ei]
  refine wpAny_storeSet_of ho hd ?_ (by rw[List.size_toArray,List.length_map,ST.ins_len pz,sizeLine_eq];omega)
  have ho1:=zuk (es':=((ST.ins xs p (k,b)).map (zoZ knd)).toArray) (t':={ t with place:=(ST.ins pl p j).toArray,plain:=v }) ho hd
  have sb1:=Heap.SameBut.update s.heap a (Obj.putSet ((ST.ins xs p (k,b)).map (zoZ knd)).toArray { t with place:=(ST.ins pl p j).toArray,plain:=v })
  have al2: ∀z∈ST.ins xs p (k,b),knd.is (s.heap.update a (Obj.putSet ((ST.ins xs p (k,b)).map (zoZ knd)).toArray { t with place:=(ST.ins pl p j).toArray,plain:=v })) z.1 z.2:=fun z hz=>P.keep (al1 z hz) ho hd sb1
  have fil:({ t with place:=(ST.ins pl p j).toArray,plain:=v }:SetTable).fill=xs.length+1:=by
   unfold SetTable.fill
   show (ST.ins pl p j).toArray.size+t.dummies.size=_
   rw[T.dum,List.size_toArray,ST.ins_len p1,T.len]
   simp[hsC]
  have ln:(ST.ins xs p (k,b)).length=xs.length+1:=ST.ins_len pz
  have fit1:=zhH (es:=((ST.ins xs p (k,b)).map (zoZ knd)).toArray) T2 (by rw[ST.ins_len (show p<=(hsC knd xs).length by simpa [hsC] using pz)];simp[ln,hsC])
  split
  ·rename_i tf
   have tf:(xs.length+1)*5>=t.mask*3:=by
    have:({ t with place:=(ST.ins pl p j).toArray,plain:=v }:SetTable).tooFull=true:=by simpa using tf
    unfold SetTable.tooFull at this
    rw[fil] at this
    simpa using this
   obtain⟨m,hm,Fm,lm,bm,rm2⟩: ∃m,SetTable.sizeAbove (SetTable.grown (es.size+1))=m+1/\ST.Full m/\xs.length+1<=m/\m+1<=1000/\∀t':SetTable,t'.mask=m->Roomy t' (xs.length+1):=by
    rw[esz]
    rcases ro with ⟨e,h⟩|⟨e,h⟩|⟨e,h⟩
    ·have:xs.length=4:=by omega
     rw[this]
     exact⟨31,by decide,ST.full31,by decide,by decide,fun t' e'=>.inr (.inl ⟨e',by decide⟩)⟩
    ·have:xs.length=18:=by omega
     rw[this]
     exact⟨127,by decide,ST.full127,by decide,by decide,fun t' e'=>.inr (.inr ⟨e',by decide⟩)⟩
    ·omega
   refine wpAny_bind (zpH P (s:={ s with heap:=_ }) ho1 hx rfl (by simp) al2 fit1 nd1 hm Fm (by rw[ln];exact lm) bm (by rw[ln];exact rm2) fl hv fun h2 ys y1 y2 y3=>wpAny_pure (qn nk h2 ys (y1.trans pm) y2 (sb1.trans y3)))
  ·rename_i tf
   have tf: ¬((xs.length+1)*5>=t.mask*3):=fun z=>tf (by
    unfold SetTable.tooFull
    rw[fil]
    simpa using z)
   refine wpAny_pure (qn nk _ _ pm ⟨⟨_,_,_,_,ST.ins pl p j,ho1,hx,rfl,by simp,by rw[znS];exact T2,by rw[znS];exact F2,?_,fl,hv⟩,al2⟩ sb1)
   rw[ln]
   rcases ro with ⟨e,h⟩|⟨e,h⟩|⟨e,h⟩
   ·exact .inl ⟨e,by omega⟩
   ·exact .inr (.inl ⟨e,by omega⟩)
   ·exact .inr (.inr ⟨e,by omega⟩)
 have old:(∀z∈ST.ins xs p (k,b),nice z.1)->t.plain=true:=fun hn=>fp fun z hz=>hn z (ST.mem_ins.mpr (.inr hz))
 split
 ·refine wpAny_bind (P.byval hb fun v hv=>?_)
  cases v with
  |true=>exact wpAny_bind (zch t.plain old)
  |false=>exact wpAny_bind (zch false fun hn=>hv (hn (k,b) (ST.mem_ins.mpr (.inl rfl))))
 ·exact wpAny_bind (wpAny_pure (wpAny_bind (zch t.plain old)))
end
section
variable {prog:Program} {w:World} {K:Type} [DecidableEq K] {kn:KeyKind prog w K}
theorem znT{n:Nat}{v:Value}(h:carriedByValue v=true):ofAClassStatement n v=pure false:=by
 cases v<;>first|(cases h;done)|(unfold ofAClassStatement;rfl)
theorem znU{n:Nat}{v:Value}(h:carriedByValue v=true): ∃b,hashByValue n v=pure b:=by
 cases v<;>first|(cases h;done)|exact⟨_,by unfold hashByValue;rfl⟩
theorem zi2{α β:Type}{M:Model}{A:Around}{E:Value->Shared->Prop}{s:Shared}{f:α->β->Sem (ForInStep β)}: ∀(ys:List α) (b0:β) {Q:β->Shared->Prop},(∀y∈ys,∀b,∃r,f y b=pure r)->(∀b,Q b s)->wpAny M A (forIn ys b0 f) Q E s
 |[],b0,Q,_,q=>wpAny_pure (q b0)
 |y::ys,b0,Q,h,q=>by
  rw[List.forIn_cons]
  obtain⟨r,e⟩:=h y (List.mem_cons_self ..) b0
  refine wpAny_bind (wpAny_of_eq e ?_)
  cases r with
  |done b=>exact wpAny_pure (q b)
  |yield b=>exact zi2 ys b (fun z hz=>h z (List.mem_cons_of_mem _ hz)) q
theorem zi3{α β γ:Type}{M:Model}{A:Around}{E:Value->Shared->Prop}{s:Shared}{f:α->Option γ×β->Sem (ForInStep (Option γ×β))}: ∀(ys:List α) (b0:Option γ×β) {Q:Option γ×β->Shared->Prop},(∀y∈ys,∀b,b.1=none->∃b',b'.1=none/\f y b=pure (.yield b'))->b0.1=none->(∀b,b.1=none->Q b s)->wpAny M A (forIn ys b0 f) Q E s
 |[],b0,Q,_,h0,q=>wpAny_pure (q b0 h0)
 |y::ys,b0,Q,h,h0,q=>by
  rw[List.forIn_cons]
  obtain⟨r,r0,e⟩:=h y (List.mem_cons_self ..) b0 h0
  exact wpAny_bind (wpAny_of_eq e (zi3 ys r (fun z hz=>h z (List.mem_cons_of_mem _ hz)) r0 q))
theorem zi4{nice:List K->Prop}(hn: ∀ks vs,nice ks->ItemsAre kn ks vs->∀v∈vs,∃i t,v=Value.int i t):Plain2 (tupleKind kn) nice where
 nocls:=fun {A E s k a Q} hk q=>by
  have hT:=IsTupleKey.typeIs hk
  obtain⟨o,items,n,ho,hc,hd,hi⟩:=hk
  show wpAny _ _ (ofAClassStatement (7+1) (.ref a)) _ _ _
  unfold ofAClassStatement
  refine wpAny_bind (wpAny_typeOf hT ?_)
  dsimp only
  rw[if_pos (by decide)]
  refine wpAny_bind (wpAny_pure ?_)
  rw[if_neg (by decide)]
  refine wpAny_bind (wpAny_seqItems ho hd ?_)
  dsimp only
  refine wpAny_bind ?_
  rw[<-Array.forIn_toList]
  refine zeG items.toList (fun y hy Q1 q1=>?_) (wpAny_pure q)
  refine wpAny_bind (wpAny_of_eq (znT (hi.byValue y hy)) ?_)
  rw[if_neg (by decide)]
  exact wpAny_pure q1
 byval:=fun {A E s k a Q} hk q=>by
  have hT:=IsTupleKey.typeIs hk
  obtain⟨o,items,n,ho,hc,hd,hi⟩:=hk
  show wpAny _ _ (hashByValue (7+1) (.ref a)) _ _ _
  unfold hashByValue
  refine wpAny_bind (wpAny_specialOf hT F.slot_tuple_hash.lookup ?_)
  dsimp only
  refine wpAny_bind (wpAny_seqItems ho hd ?_)
  refine wpAny_bind ?_
  rw[<-Array.forIn_toList]
  by_cases nk:nice k
  ·refine zi3 items.toList _ (fun y hy r r0=>?_) rfl fun r r0=>?_
   ·obtain⟨i,t,rfl⟩:=hn k _ nk hi y hy
    exact⟨(none,()),rfl,rfl⟩
   ·obtain⟨r1,r2⟩:=r
    dsimp only at r0
    subst r0
    exact wpAny_pure (q _ fun _=>rfl)
  ·refine zi2 items.toList _ (fun y hy r=>?_) fun r=>?_
   ·obtain⟨b,e⟩:=znU (n:=7) (hi.byValue y hy)
    rw[e]
    cases b<;>exact⟨_,rfl⟩
   ·rcases r with ⟨_|_,_⟩<;>exact wpAny_pure (q _ fun z=>(nk z).elim)
 keep:=fun {h h' k a d o es ep t} hk ho hd sb=>by
  obtain⟨o',items,n,ho',hc,hd',hi⟩:=hk
  have ne:a≠d:=by
   intro e
   rw[e,ho] at ho'
   cases ho'
   rw[hd] at hd'
   cases hd'
  exact⟨o',items,n,(sb.2 a ne).trans ho',hc,hd',hi⟩
end
end L2.LW
set_option maxHeartbeats 4000000
namespace L2.LW
open PySem PySem.Spec PySem.W PySem.Calls PyProof.Rows
section
variable {prog:Program} {w:World} {K:Type} [DecidableEq K] {kn:KeyKind prog w K} {nice:List K->Prop} {A:Around} {R:Result->Shared->Prop} {I S:Addr} {fp wr:List Addr} {G:Array GenState->Array GenState->Prop} {n:Nat} {P:Nat->Value->Prop} {St:Nat->Shared->Prop}
theorem zla{h h':Heap}{k:List K}{a:Addr}(x:IsTupleKey kn h k a)(e: ∀o,h.get? a=some o->h'.get? a=some o):IsTupleKey kn h' k a:=by
 obtain⟨o,its,m,ho,r⟩:=x
 exact⟨o,its,m,e o ho,r⟩
theorem SetC.at{h h':Heap}{a:Addr}{xs:List (List K×Addr)}(S:SetC (tupleKind kn) nice h a xs)(e: ∀o,h.get? a=some o->h'.get? a=some o)(al: ∀z∈xs,IsTupleKey kn h' z.1 z.2):SetC (tupleKind kn) nice h' a xs:=by
 obtain⟨⟨o,es,ep,t,pl,ho,r⟩,_⟩:=S
 exact⟨⟨o,es,ep,t,pl,e o ho,r⟩,al⟩
theorem zlY(hnice: ∀ks vs,nice ks->ItemsAre kn ks vs->∀v∈vs,∃i t,v=Value.int i t)(W:WalksS prog w A.in1 I fp wr G n P St)(nS:S∉fp)(hu:A.in1.units<cLine){zs:List (List K×Addr)}(hn:zs.length=n)(val: ∀i v,P i v->∃z,zs[i]? =some z/\v= .ref z.2)
  (nw: ∀z∈zs,z.2∉wr) (inj: ∀z∈zs,∀y∈zs,tupleKeyHash kn z.1=tupleKeyHash kn y.1->z.1=y.1) (cap: ∀xs:List (List K×Addr),(xs.map (·.1)).Nodup->(∀z∈xs,z∈zs)->xs.length<76):
  ∀(m i:Nat) (s:Shared) (xs:List (List K×Addr)),n-i=m->i<=n->St i s->SetC (tupleKind kn) nice s.heap S xs->(∀z∈xs,z∈zs)->(∀k,(∃z∈xs,z.1=k)↔∃z∈zs.take i,z.1=k)->(∀z∈zs,IsTupleKey kn s.heap z.1 z.2)->
   (∀s' ys,Moved (S::wr) G s s'->SetC (tupleKind kn) nice s'.heap S ys->(∀z∈ys,z∈zs)->(∀k,(∃z∈ys,z.1=k)↔∃z∈zs,z.1=k)->R (.ok (.ret .none)) s')->
   codeAny (model prog w) A (.builtin "set.update.loop" ⟨[.ref S,.ref I],[]⟩) R s:=by
 have nSw:S∉wr:=fun z=>nS (W.sub _ z)
 have up: ∀b∈wr,b∈S::wr:=fun b hb=>List.mem_cons_of_mem _ hb
 intro m
 induction m with
 |zero=>
  intro i s xs hm hi st C sub mem al fin
  obtain rfl:i=n:=by omega
  refine codeAny_builtin PyProof.Rows.F.entry_set_update_loop ?_
  rw[Around.under_plainId PyProof.Rows.F.plain_set_update_loop _]
  refine wpAny_bind (W.done s _ _ st fun s1 mv=>wpAny_pure (fin s1 xs (mv.mono up) (C.at (fun o e=>mv.heap S o nSw e) fun z hz=>zla (C.al z hz) fun o e=>mv.heap z.2 o (nw z (sub z hz)) e) sub fun k=>?_))
  rw[mem k,List.take_of_length_le (by omega)]
 |succ m ih=>
  intro i s xs hm hi st C sub mem al fin
  have lt:i<n:=by omega
  refine codeAny_builtin PyProof.Rows.F.entry_set_update_loop ?_
  rw[Around.under_plainId PyProof.Rows.F.plain_set_update_loop _]
  refine wpAny_bind (W.item i s _ _ lt st fun v s1 hv st1 mv=>?_)
  obtain⟨z,ez,rfl⟩:=val i v hv
  have zm:z∈zs:=List.mem_of_getElem? ez
  have al1: ∀y∈zs,IsTupleKey kn s1.heap y.1 y.2:=fun y hy=>zla (al y hy) fun o e=>mv.heap y.2 o (nw y hy) e
  have C1:SetC (tupleKind kn) nice s1.heap S xs:=C.at (fun o e=>mv.heap S o nSw e) fun y hy=>al1 y (sub y hy)
  have tk:zs.take (i+1)=zs.take i++[z]:=by rw[List.take_add_one,ez];rfl
  refine wpAny_bind (wpAny_holding ?_)
  unfold setAdd
  refine wpAny_holding ?_
  refine wpAny_bind ((tupleKind kn).pyHash (k:=z.1) hu (al1 z zm) ?_)
  have nd:(xs.map (·.1)).Nodup:=by
   obtain⟨_,_,_,_,_,_,_,_,_,T,_⟩:=C.ex
   have:=T.nd
   unfold hsC at this
   rw[show (xs.map fun y=>(tupleKind kn).hash y.1)=(xs.map (·.1)).map (tupleKind kn).hash by rw[List.map_map];rfl] at this
   exact List.Pairwise.of_map _ (fun a b h e=>h (by rw[e])) this
  have go: ∀(s2:Shared) (ys:List (List K×Addr)),s2.toks=s1.toks+(tupleKind kn).draws z.1->s2.gens=s1.gens->s2.drawn=s1.drawn->s2.os=s1.os->Heap.SameBut S s1.heap s2.heap->SetC (tupleKind kn) nice s2.heap S ys->(∀y∈ys,y∈zs)->
    (∀k,(∃y∈ys,y.1=k)↔∃y∈zs.take (i+1),y.1=k)->codeAny (model prog w) A (.builtin "set.update.loop" ⟨[.ref S,.ref I],[]⟩) R s2:=fun s2 ys t1 t2 t3 t4 sb C2 sub2 mem2=>by
   obtain⟨h2,g2,d2,tk2,os2⟩:=s2
   obtain⟨h1,g1,d1,tk1,os1⟩:=s1
   dsimp only at t1 t2 t3 t4 sb C2
   subst t2;subst t3;subst t4
   have le:tk1<=tk2:=by omega
   refine ih (i+1) _ ys (by omega) lt (W.frame _ _ h2 tk2 st1 le fun b hb o e=>?_) C2 sub2 mem2 (fun y hy=>?_) fun s3 us mv3 C3 sub3 mem3=>fin s3 us (Moved.trans W.gtrans ((mv.mono up).then_heap le fun b o hb e=>?_) mv3) C3 sub3 mem3
   ·rw[sb.2 b fun e=>nS (e▸hb)];exact e
   ·by_cases e:y.2=S
    ·exfalso
     obtain⟨_,_,_,_,_,ho,ex,hd,_⟩:=C1.ex
     obtain⟨o',_,_,ho',hc',_⟩:=al1 y hy
     rw[e,ho] at ho'
     cases ho'
     rw[ex.1] at hc'
     injection hc' with hc'
     exact absurd hc' (by decide)
    ·exact zla (al1 y hy) fun o q=>by rw[sb.2 y.2 e];exact q
   ·rw[sb.2 b fun e=>hb (by rw[e];exact List.mem_cons_self)];exact e
  refine zul (knd:=tupleKind kn) (s:={ s1 with toks:=s1.toks+(tupleKind kn).draws z.1 }) (zi4 hnice) C1 hu (al1 z zm) (fun y hy e=>inj y (sub y hy) z zm e) (cap xs nd sub) (fun ok=>?_) fun nk h2 ys py C2 sb=>?_
  ·refine wpAny_pure ⟨plainId_quiet PyProof.Rows.F.plain_set_update_loop _,go _ xs rfl rfl rfl rfl (Heap.SameBut.refl _ _) C1 sub fun k=>?_⟩
   rw[mem k,tk]
   constructor
   ·rintro⟨y,hy,e⟩;exact⟨y,List.mem_append_left _ hy,e⟩
   ·rintro⟨y,hy,e⟩
    rcases List.mem_append.mp hy with hy|hy
    ·exact⟨y,hy,e⟩
    ·rw[List.mem_singleton] at hy
     rw[hy] at e
     rw[<-e]
     exact (mem z.1).mp ok
  ·refine wpAny_pure ⟨plainId_quiet PyProof.Rows.F.plain_set_update_loop _,go _ ys rfl rfl rfl rfl sb C2 (fun y hy=>?_) fun k=>?_⟩
   ·rcases List.mem_cons.mp (py.mem_iff.mp hy) with rfl|hy
    ·exact zm
    ·exact sub y hy
   ·rw[tk]
    constructor
    ·rintro⟨y,hy,e⟩
     rcases List.mem_cons.mp (py.mem_iff.mp hy) with rfl|hy
     ·exact⟨z,List.mem_append_right _ (List.mem_singleton.mpr rfl),e⟩
     ·obtain⟨y2,h3,h4⟩:=(mem k).mp ⟨y,hy,e⟩
      exact⟨y2,List.mem_append_left _ h3,h4⟩
    ·rintro⟨y,hy,e⟩
     rcases List.mem_append.mp hy with hy|hy
     ·obtain⟨y2,h3,h4⟩:=(mem k).mpr ⟨y,hy,e⟩
      exact⟨y2,py.mem_iff.mpr (List.mem_cons_of_mem _ h3),h4⟩
     ·rw[List.mem_singleton] at hy
      subst hy
      exact⟨_,py.mem_iff.mpr List.mem_cons_self,e⟩
noncomputable def zdy(led:Bool):Obj:={ cls:=.type "set",dict:=none,data:=.set #[] 0 (.fresh 0 0 led) }
theorem znV{h:Heap}{a:Addr}(e:h.get? a=some (zdy (!zcl w))):SetC (tupleKind kn) nice h a []:=
 ⟨⟨_, #[],0,.fresh 0 0 (!zcl w),[],e,⟨rfl,rfl,rfl⟩,rfl,rfl,⟨ST.full7,rfl,rfl,fun i j _ a b h=>(nomatch h),rfl,fun x hx=>(nomatch hx),List.nodup_nil,Nat.zero_le _⟩,fun x hx=>(nomatch hx),Or.inl ⟨rfl,Nat.zero_le _⟩,rfl,fun _=>rfl⟩,fun z hz=>(nomatch hz)⟩
set_option maxRecDepth 100000 in
theorem zgw(a:Value){E:Value->Shared->Prop}{s:Shared}{Q₁:Value->Shared->Prop}(h:Q₁ (.ref s.heap.objs.size) { s with heap:=s.heap.push (zdy (!zcl w)) }):
  codeAny (model prog w) A (.call (.builtin "set.__new__") ⟨[.type "set",a],[]⟩) (wants Q₁ E) s:=by
 refine codeAny_of_tree ?_
 show wpAny _ A.in1 (do checkBuiltinCall "set.__new__" ⟨[.type "set",a],[]⟩;again (.builtin "set.__new__" ⟨[.type "set",a],[]⟩)) _ _ s
 refine wpAny_bind (wpAny_of_eq (PySem.F.newCall_set_1 a) (wpAny_pure ⟨plainId_quiet PySem.F.plain_set_new _,codeAny_builtin PySem.F.entry_set_new ?_⟩))
 rw[Around.under_plainId PySem.F.plain_set_new _]
 unfold Builtin.«set.__new__» Builtin.Frozenset.newClass
 have hsub:=PySem.sub_set_self
 obtain⟨hp,g,d,tk,os⟩:=s
 dsimp only
 wp_walk
 refine wpAny_askSetting (wpAny_pure ?_)
 dsimp only
 simp only[newObj]
 refine wpAny_bind (wpAny_alloc (wpAny_pure ?_))
 exact wpAny_pure h
set_option maxRecDepth 100000 in
theorem zpK(hnice: ∀ks vs,nice ks->ItemsAre kn ks vs->∀v∈vs,∃i t,v=Value.int i t){E:Value->Shared->Prop}{s:Shared}{l:Addr}{items:Array Value}{zs:List (List K×Addr)}{Q:Value->Shared->Prop}(hh:A.handled=none)(hu:A.units+8<cLine)(hl:s.heap.IsList l items)
  (hz:items.toList=zs.map fun z=>.ref z.2) (al: ∀z∈zs,IsTupleKey kn s.heap z.1 z.2) (inj: ∀z∈zs,∀y∈zs,tupleKeyHash kn z.1=tupleKeyHash kn y.1->z.1=y.1) (cap: ∀xs:List (List K×Addr),(xs.map (·.1)).Nodup->(∀z∈xs,z∈zs)->xs.length<76)
  (q: ∀(h':Heap) (tk:Nat) ys,SetC (tupleKind kn) nice h' s.heap.objs.size ys->(∀z∈ys,z∈zs)->(∀k,(∃z∈ys,z.1=k)↔∃z∈zs,z.1=k)->(∀b o,b<s.heap.objs.size->s.heap.get? b=some o->h'.get? b=some o)->Q (.ref s.heap.objs.size) { s with heap:=h',toks:=tk }):
  wpAny (model prog w) A (call (.type "set") [.ref l]) Q E s:=by
 obtain⟨c,tl,m1⟩:=PySem.F.called_set.mro
 have m2:=PySem.F.called_set.made
 have m3:=PySem.F.called_set.sub
 have m4:=PySem.F.called_set.notType
 have m5:=PySem.F.called_set.canCreate
 have m6:=PySem.F.typeCall_set_1 (.ref l)
 refine wpAny_call (codeAny_of_tree (wpAny_pure ⟨Code.quiet_builtin _ (by decide+kernel),codeAny_builtin PySem.F.entry_type_call ?_⟩))
 rw[Around.under_plain (weight_type_call_type "set" [.ref l] []) rfl]
 repeat (any_goals (first|assumption|wp_step))
 refine codeAny_mono (zgw (.ref l) (E:=E) (Q₁:=fun v s1=>v= .ref s.heap.objs.size/\s1={ s with heap:=s.heap.push (zdy (!zcl w)) }) ⟨rfl,rfl⟩) fun r s1 hr=>?_
 cases r with
 |error e=>exact hr
 |ok f=>
 cases f with
 |next=>exact hr.elim
 |brk=>exact hr.elim
 |cont=>exact hr.elim
 |ret v=>
 obtain⟨rfl,rfl⟩:=hr
 have gS:(s.heap.push (zdy (!zcl w))).get? s.heap.objs.size=some (zdy (!zcl w)):=Heap.get?_push_size _ rfl
 have tS:Shared.TypeIs { s with heap:=s.heap.push (zdy (!zcl w)) } (.ref s.heap.objs.size) "set":=⟨_,gS,rfl⟩
 have i1:=PySem.F.called_set.init.lookup
 have i2:=PySem.F.called_set.init.bind (.ref s.heap.objs.size)
 repeat (any_goals (first|assumption|wp_step))
 refine codeAny_mono (codeAny_call_builtin (R:=wants (fun v s2=>v= .none/\∃h' tk ys,s2={ s with heap:=h',toks:=tk }/\SetC (tupleKind kn) nice h' s.heap.objs.size ys/\(∀z∈ys,z∈zs)/\(∀k,(∃z∈ys,z.1=k)↔∃z∈zs,z.1=k)/\
   ∀b o,b<s.heap.objs.size->s.heap.get? b=some o->h'.get? b=some o) E) PySem.F.called_set.init.plain PySem.F.entry_set_init (PySem.check_set_init_1 tS ?_)) fun r2 s2 hr2=>?_
 ·obtain⟨⟨c0,d0,dt,sl⟩,gl,k1,nl,k2⟩:=hl
  dsimp only at k1 k2
  subst k1
  subst k2
  have gl2:(s.heap.push (zdy (!zcl w))).get? l=some { cls:=.type "list",dict:=d0,data:=.seq items nl,slots:=sl }:=Heap.get?_push_of_some _ gl
  have gS2:(s.heap.push (zdy (!zcl w))).get? s.heap.objs.size=some { cls:=.type "set",dict:=none,data:=.set #[] 0 (.fresh 0 0 (!zcl w)) }:=gS
  have j1:=PySem.F.sub_list_set
  have j2:=PySem.F.sub_list_frozenset
  have j3:(Value.type "list"==Value.type "dict")=false:=by decide
  have il:(s.heap.push (zdy (!zcl w))).IsList l items:=⟨_,gl2,rfl,nl,rfl⟩
  have llt:l<s.heap.objs.size:=Heap.lt_size gl
  generalize hP:s.heap.push (zdy (!zcl w))=hp at*
  have hpz:hp.objs.size=s.heap.objs.size+1:=by rw[<-hP];exact Heap.size_push ..
  unfold Builtin.«set.__init__» noKeywords Builtin.Frozenset.updateFrom
  generalize hI:pyIter=pI
  wp_walk
  subst hI
  refine wpAny_pyIter_list il ?_
  refine wpAny_bind (wpAny_runValue ?_)
  have ne:l≠hp.objs.size:=by rw[hpz];exact Nat.ne_of_lt (Nat.lt_succ_of_lt llt)
  have val: ∀(i:Nat) (v:Value),items[i]? =some v->∃z,zs[i]? =some z/\v= .ref z.2:=fun i v hv=>by
   rw[<-Array.getElem?_toList,hz,List.getElem?_map] at hv
   cases e:zs[i]? with
   |none=>rw[e] at hv;cases hv
   |some z=>rw[e] at hv;cases hv;exact⟨z,rfl,rfl⟩
  have old: ∀z∈zs,z.2<s.heap.objs.size:=fun z hm=>by
   obtain⟨o,_,_,e,_⟩:=al z hm
   exact Heap.lt_size e
  have up: ∀b o,s.heap.get? b=some o->(hp.push { cls:=.type "list_iterator",data:=.fields #[.ref l,.int 0 0] }).get? b=some o:=fun b o e=>Heap.get?_push_of_some _ (by rw[<-hP];exact Heap.get?_push_of_some _ e)
  refine zlY (kn:=kn) (nice:=nice) hnice ((Walks.list (by simp[hh]) _ l ne items).toS) (by rw[hpz];simp only[List.mem_cons,List.not_mem_nil,or_false,not_or];exact⟨Nat.ne_of_lt (Nat.lt_succ_self _),Nat.ne_of_gt llt⟩) ?hu (zs:=zs) ?len val ?nw inj cap (items.size-0) 0 _ [] rfl (Nat.zero_le _)
   ⟨⟨_,Heap.get?_push_size _ rfl,rfl,rfl⟩,il.push _⟩ (znV (Heap.get?_push_of_some _ gS2)) (fun z hm=>(nomatch hm)) (fun k=>?mem) (fun z hm=>zla (al z hm) fun o e=>up z.2 o e) fun s' ys mv C s1 s2=>?fin
  case hu=>simp;omega
  case len=>rw[<-Array.length_toList,hz,List.length_map]
  case nw=>intro z hm;rw[hpz,List.mem_singleton];exact Nat.ne_of_lt (Nat.lt_succ_of_lt (old z hm))
  case mem=>constructor<;>(rintro⟨z,hm,_⟩;cases hm)
  case fin=>
   obtain⟨h',g',d',tk',os'⟩:=s'
   have e1:g'=s.gens:=mv.gens
   have e2:d'=s.drawn:=mv.drawn
   have e3:os'=s.os:=mv.os
   subst e1
   subst e2
   subst e3
   refine wpAny_pure ?_
   refine wpAny_pure ⟨rfl,h',tk',ys,rfl,C,s1,s2,fun b o hb e=>?_⟩
   refine mv.heap b o ?_ (up b o e)
   rw[hpz]
   simp only[List.mem_cons,List.not_mem_nil,or_false,not_or]
   exact⟨Nat.ne_of_lt hb,Nat.ne_of_lt (Nat.lt_succ_of_lt hb)⟩
 ·cases r2 with
  |error e=>exact hr2
  |ok f2=>
  cases f2 with
  |next=>exact hr2.elim
  |brk=>exact hr2.elim
  |cont=>exact hr2.elim
  |ret v2=>
  obtain⟨rfl,h',tk,ys,rfl,y1,y2,y3,y4⟩:=hr2
  repeat (any_goals (first|assumption|wp_step))
  exact q h' tk ys y1 y2 y3 y4
end
end L2.LW
set_option maxHeartbeats 4000000
namespace L2.LW
open PySem PySem.Spec PySem.W PySem.Calls PyProof.Rows
theorem zcv{α:Type}[DecidableEq α]{x:α}: ∀{l:List α},x∈nub l↔x∈l
 |[]=>Iff.rfl
 |c::r=>by
  unfold nub
  split
  ·rename_i h
   rw[zcv,List.mem_cons]
   exact⟨.inr,fun z=>z.elim (fun e=>e▸h) id⟩
  ·rw[List.mem_cons,List.mem_cons,zcv]
theorem zb9{α:Type}[DecidableEq α]: ∀{l:List α},(nub l).Nodup
 |[]=>List.nodup_nil
 |c::r=>by
  unfold nub
  split
  ·exact zb9
  ·rename_i h
   exact List.nodup_cons.mpr ⟨fun z=>h (zcv.mp z),zb9⟩
noncomputable def kC(c:Int×Int):List Key:=[Sum.inl c.1,Sum.inl c.2]
noncomputable def in8(c:Int×Int):Prop:=0<=c.1/\c.1<=7/\0<=c.2/\c.2<=7
theorem zum{c d:Int×Int}(e:kC c=kC d):c=d:=by
 unfold kC at e
 simp only[List.cons.injEq,Sum.inl.injEq,and_true] at e
 exact Prod.ext e.1 e.2
theorem zi5{l:List (Int×Int)}(nd:l.Nodup)(h: ∀c∈l,in8 c):l.length<76:=by
 have nd2:(l.map fun c=>(c.1*8+c.2).toNat).Nodup:=by
  unfold List.Nodup
  rw[List.pairwise_map]
  refine nd.imp_of_mem fun {a b} ha hb hab z=>hab ?_
  have h1:=h a ha
  have h2:=h b hb
  unfold in8 at h1 h2
  exact Prod.ext (by omega) (by omega)
 have lt: ∀x∈(l.map fun c=>(c.1*8+c.2).toNat),x<64:=fun x hx=>by
  obtain⟨c,hc,rfl⟩:=List.mem_map.mp hx
  have:=h c hc
  unfold in8 at this
  omega
 have: ∀(n:Nat) (m:List Nat),m.Nodup->(∀x∈m,x<n)->m.length<=n:=fun n=>by
  induction n with
  |zero=>
   intro m _ hm
   cases m with
   |nil=>exact Nat.le_refl _
   |cons x r=>exact absurd (hm x (List.mem_cons_self ..)) (Nat.not_lt_zero _)
  |succ n ih=>
   intro m hd hm
   by_cases e:n∈m
   ·have:=ih (m.erase n) (hd.erase n) fun x hx=>by
     have h1:=hm x (List.mem_of_mem_erase hx)
     have h2:x≠n:=fun z=>by rw[z,List.Nodup.mem_erase_iff hd] at hx;exact hx.1 rfl
     omega
    rw[List.length_erase_of_mem e] at this
    omega
   ·have:=ih m hd fun x hx=>by
     have h1:=hm x hx
     have h2:x≠n:=fun z=>e (z▸hx)
     omega
    omega
 have:=this 64 _ nd2 lt
 rw[List.length_map] at this
 omega
noncomputable def zrW(a:Addr)(n:Nat):HO:=.ext fun h=>∃o es ep t,h.get? a=some o/\o.ExactSet/\o.data= .set es ep t/\t.fits es.size=true/\es.size=n
noncomputable def CL(H:Hp)(cs:List (Int×Int))(xs:List V):Prop:=Paired (fun c x=>∃a,x=V.ref a/\H a=some (.tup ((kC c).map kV))/\in8 c) cs xs
theorem SetC.nd{prog:Program}{w:World}{K:Type}[DecidableEq K]{knd:HeapKind prog w K}{nice:K->Prop}{h:Heap}{a:Addr}{xs:List (K×Addr)}(C:SetC knd nice h a xs):(xs.map (·.1)).Nodup:=by
 obtain⟨_,_,_,_,_,_,_,_,_,T,_⟩:=C.ex
 have z:=T.nd
 unfold hsC at z
 rw[show (xs.map fun y=>knd.hash y.1)=(xs.map (·.1)).map knd.hash by rw[List.map_map];rfl] at z
 exact List.Pairwise.of_map _ (fun a b h e=>h (by rw[e])) z
theorem zun{P:Program}{w:World}{H:Hp}{h:Heap}(ok:HOk P w H h): ∀{cs:List (Int×Int)} {xs:List V} {its:List Value},CL H cs xs->Vals xs its->
  ∃zs:List (List Key×Addr),its=zs.map (fun z=>.ref z.2)/\zs.map (·.1)=cs.map kC/\(∀z∈zs,IsTupleKey (za6 P w) h z.1 z.2)/\(∀z∈zs,H z.2=some (.tup (z.1.map kV)))/\∀c∈cs,in8 c
 |_,_,_,.nil,.nil=>⟨[],rfl,rfl,fun z hz=>(nomatch hz),fun z hz=>(nomatch hz),fun c hc=>(nomatch hc)⟩
 |_,_,_,.cons h1 t1,.cons h2 t2=>by
  obtain⟨a,rfl,e,i8⟩:=h1
  cases h2
  obtain⟨zs,rfl,z2,z3,z5,z4⟩:=zun ok t1 t2
  refine⟨(kC _,a)::zs,rfl,by rw[List.map_cons,List.map_cons,z2],fun z hz=>?_,fun z hz=>?_,fun c hc=>?_⟩
  ·rcases List.mem_cons.mp hz with rfl|hz
   ·exact zgP ok e
   ·exact z3 z hz
  ·rcases List.mem_cons.mp hz with rfl|hz
   ·exact e
   ·exact z5 z hz
  ·rcases List.mem_cons.mp hc with rfl|hc
   ·exact i8
   ·exact z4 c hc
noncomputable def unC:List Key->Int×Int
 |[.inl a,.inl b]=>(a,b)
 |_=>(0,0)
section
variable {X:Cx}
noncomputable def zpL(ks:List Key):Prop:=∀k∈ks,∃i,k=Sum.inl i
theorem zlb{P:Program}{w:World}: ∀(ks:List Key) (vs:List Value),zpL ks->ItemsAre (za6 P w) ks vs->∀v∈vs,∃i t,v=Value.int i t
 |_,_,_,.nil,v,hv=>(nomatch hv)
 |_,_,hn,.cons h t,v,hv=>by
  rcases List.mem_cons.mp hv with rfl|hv
  ·obtain⟨i,rfl⟩:=hn _ List.mem_cons_self
   have h:zjX (Sum.inl i) v=true:=h
   rcases za5 h with ⟨j,u,_,e⟩|⟨x,u,e,_⟩
   ·exact⟨j,u,e⟩
   ·cases e
  ·exact zlb _ _ (fun k hk=>hn k (List.mem_cons_of_mem _ hk)) t v hv
theorem znW(hc:X.calm=true)(hu:X.A.units+8<cLine){pins:List (Addr×Obj)}{s:Shared}{σ:St}{H:Hp}{l:Addr}{xs:List V}{cs:List (Int×Int)}{Q:Value->Shared->Prop}{E:Value->Shared->Prop}(I:Inv X pins σ H s)(sq:SqL X.K H l xs)(cl:CL H cs xs)
  (q: ∀(h':Heap) (tk:Nat) (ys:List (List Key×Addr)),SetC (tupleKind (za6 X.prog X.w)) zpL h' s.heap.objs.size ys->(∀z∈ys,zpL z.1/\H z.2=some (.tup (z.1.map kV)))->(ys.map (·.1)).Perm ((nub cs).map kC)->
   (∀b o,s.heap.get? b=some o->h'.get? b=some o)->Q (.ref s.heap.objs.size) { s with heap:=h',toks:=tk }):wpAny (model X.prog X.w) X.A (call (.type "set") [.ref l]) Q E s:=by
 obtain⟨its,vi,⟨ol,nl,hl,hcl,_,hdl⟩,_⟩:=I.list sq
 obtain⟨zs,rfl,z2,z3,z5,z4⟩:=zun I.hok cl vi
 have zc: ∀z∈zs,∃c∈cs,z.1=kC c:=fun z hz=>by
  have:z.1∈cs.map kC:=by rw[<-z2];exact List.mem_map_of_mem hz
  obtain⟨c,h1,h2⟩:=List.mem_map.mp this
  exact⟨c,h1,h2.symm⟩
 have s8: ∀z∈zs,zkl z.1:=fun z hz=>by
  obtain⟨c,h1,h2⟩:=zc z hz
  obtain⟨i1,i2,i3,i4⟩:=z4 c h1
  exact⟨c.1,c.2,h2,i1,i2,i3,i4⟩
 refine zpK (kn:=za6 X.prog X.w) (nice:=zpL) zlb (I.ok.hd hc) hu ⟨ol,hl,hcl,nl,hdl⟩ (zs:=zs) rfl z3 (fun z hz y hy e=>zpB (s8 z hz) (s8 y hy) e) (fun ys nd sub=>?_) fun h' tk ys C sub mem keep=>?_
 ·have:=zi5 (l:=ys.map fun z=>unC z.1) (by
   unfold List.Nodup at nd⊢
   rw[List.pairwise_map] at nd⊢
   refine nd.imp_of_mem fun {a b} ha hb hab e=>hab ?_
   obtain⟨c,_,e1⟩:=zc a (sub a ha)
   obtain⟨d,_,e2⟩:=zc b (sub b hb)
   rw[e1,e2] at e⊢
   exact congrArg kC e) (fun c hm=>by
   obtain⟨z,hz,rfl⟩:=List.mem_map.mp hm
   obtain⟨c,h1,e1⟩:=zc z (sub z hz)
   rw[e1]
   exact z4 c h1)
  rw[List.length_map] at this
  exact this
 ·have pm:(ys.map (·.1)).Perm ((nub cs).map kC):=by
   rw[List.perm_ext_iff_of_nodup C.nd (by
    unfold List.Nodup
    rw[List.pairwise_map]
    exact (zb9 (l:=cs)).imp fun {a b} h e=>h (zum e))]
   intro k
   have m1:=mem k
   constructor
   ·intro hk
    obtain⟨y,hy,e⟩:=List.mem_map.mp hk
    obtain⟨z,hz,e2⟩:=m1.mp ⟨y,hy,e⟩
    obtain⟨c,h1,h2⟩:=zc z hz
    exact List.mem_map.mpr ⟨c,zcv.mpr h1,by rw[<-h2,e2]⟩
   ·intro hk
    obtain⟨c,h1,e⟩:=List.mem_map.mp hk
    have h2:kC c∈zs.map (·.1):=by rw[z2];exact List.mem_map_of_mem (zcv.mp h1)
    obtain⟨z,hz,e2⟩:=List.mem_map.mp h2
    obtain⟨y,hy,e3⟩:=m1.mpr ⟨z,hz,e2.trans e⟩
    exact List.mem_map.mpr ⟨y,hy,e3⟩
  refine q h' tk ys C (fun z hz=>⟨fun k hk=>?_,z5 z (sub z hz)⟩) pm fun b o e=>keep b o (Heap.lt_size e) e
  obtain⟨c,_,e⟩:=zc z (sub z hz)
  rw[e] at hk
  rcases List.mem_cons.mp hk with rfl|hk
  ·exact⟨_,rfl⟩
  ·rw[List.mem_singleton] at hk
   exact⟨_,hk⟩
theorem zr8(hc:X.calm=true)(hu:X.A.units+8<cLine):CallR X (.type "set") (fun vs H Q=>∃l xs cs,vs=[.ref l]/\SqL X.K H l xs/\CL H cs xs/\∀p,H p=none->Q (.ref p) (upd H p (zrW p (nub cs).length))):=by
 rintro pins s σ H vs us Q I rv ⟨l,xs,cs,rfl,sq,cl,q⟩
 cases rv with
 |cons r1 rv=>
 cases rv
 cases r1
 refine znW hc hu I sq cl fun h' tk ys C _ pm keep=>?_
 have ln:ys.length=(nub cs).length:=by
  have:=pm.length_eq
  rwa [List.length_map,List.length_map] at this
 have fr:H s.heap.objs.size=none:=I.hok.fresh (Nat.le_refl _)
 refine⟨.ref s.heap.objs.size,upd H s.heap.objs.size (zrW s.heap.objs.size (nub cs).length),I.laid (t':=tk) keep (Nat.le_refl _) ?_,rfl,q _ fr⟩
 obtain⟨o,es,ep,t,pl,ho,ex,hd,he,T,_⟩:=C.ex
 have sz:es.size=(nub cs).length:=by rw[<-Array.length_toList,he,List.length_map,ln]
 refine⟨⟨o,es,ep,t,ho,ex,hd,zhH T (by rw[he];simp[hsC]),sz⟩,⟨o,ho⟩,fun h1 h2 p st=>?_⟩
 obtain⟨o1,es1,ep1,t1,a1,a2⟩:=p
 exact⟨o1,es1,ep1,t1,st _ a1,a2⟩
theorem zuo(ns:List Int):(firstMet (fun i=>ns.getD i 0) ns.length).Perm (nub ns):=by
 have e:(List.range ns.length).map (fun i=>ns.getD i 0)=ns:=by
  apply List.ext_getElem
  ·simp
  ·intro i h1 h2
   simp[List.getD,h2]
 unfold firstMet
 rw[e]
 have key: ∀(l acc:List Int),acc.Nodup->(l.foldl step_dedup acc).Nodup/\∀x,x∈l.foldl step_dedup acc↔x∈acc\/x∈l:=fun l=>by
  induction l with
  |nil=>exact fun acc h=>⟨h,fun x=>by simp⟩
  |cons v r ih=>
   intro acc h
   rw[List.foldl_cons,show step_dedup acc v=if acc.any (· ==v)=true then acc else acc++[v] from rfl]
   by_cases c:acc.any (· ==v)=true
   ·rw[if_pos c]
    obtain⟨h1,h2⟩:=ih acc h
    refine⟨h1,fun x=>?_⟩
    rw[h2,List.mem_cons]
    have:v∈acc:=by simpa using c
    constructor
    ·rintro (z|z)
     ·exact .inl z
     ·exact .inr (.inr z)
    ·rintro (z|rfl|z)
     ·exact .inl z
     ·exact .inl this
     ·exact .inr z
   ·rw[if_neg c]
    have nm:v∉acc:=by simpa using c
    obtain⟨h1,h2⟩:=ih (acc++[v]) (by rw[List.nodup_append];exact⟨h,by simp,fun a ha b hb=>by rw[List.mem_singleton] at hb;rw[hb];exact fun z=>nm (z▸ha)⟩)
    refine⟨h1,fun x=>?_⟩
    rw[h2,List.mem_append,List.mem_singleton,List.mem_cons,or_assoc]
 obtain⟨h1,h2⟩:=key ns [] List.nodup_nil
 rw[List.perm_ext_iff_of_nodup h1 zb9]
 intro x
 rw[h2,zcv]
 simp
theorem zlc: ∀{is:List Int} {its:List Value},Vals (is.map V.int) its->IntsAre its is
 |[],_,.nil=>.nil
 |i::r,_,.cons h t=>by
  obtain⟨k,rfl⟩:=h
  exact .cons i k (zlc t)
theorem zr9(hc:X.calm=true):CallR X (.type "set") (fun vs H Q=>∃l is,vs=[.ref l]/\SqL X.K H l (is.map V.int)/\is.length<=1000/\∀p,H p=none->Q (.ref p) (upd H p (zrW p (nub is).length))):=by
 rintro pins s σ H vs us Q I rv ⟨l,is,rfl,sq,le,q⟩
 cases rv with
 |cons r1 rv=>
 cases rv
 cases r1
 obtain⟨its,vi,⟨ol,nl,hl,hcl,_,hdl⟩,_⟩:=I.list sq
 have ia:=zlc vi
 have ln:its.length=is.length:=by rw[<-vi.length,List.length_map]
 refine PySem.call_set_list (I.ok.hd hc) ⟨ol,hl,hcl,nl,hdl⟩ (ns:=is) (by simpa using ia) (by rw[List.size_toArray,ln];unfold scanBound;omega) fun h' tk S keep=>?_
 rw[show its.toArray.size=is.length by rw[List.size_toArray,ln]] at S
 have fr:H s.heap.objs.size=none:=I.hok.fresh (Nat.le_refl _)
 refine⟨.ref s.heap.objs.size,upd H s.heap.objs.size (zrW s.heap.objs.size (nub is).length),I.laid (t':=tk) (fun b u e=>keep b u (Heap.lt_size e) e) (Nat.le_refl _) ?_,rfl,q _ fr⟩
 obtain⟨o,es,ep,t,ho,ex,hd,_,_,_,hf,sz⟩:=S
 refine⟨⟨o,es,ep,t,ho,ex,hd,hf,sz.trans (zuo is).length_eq⟩,⟨o,ho⟩,fun h1 h2 p st=>?_⟩
 obtain⟨o1,es1,ep1,t1,a1,a2⟩:=p
 exact⟨o1,es1,ep1,t1,st _ a1,a2⟩
theorem zup(hc:X.calm=true)(hu:X.A.units+8<cLine):CallR X (.type "set") (fun vs H Q=>∃l xs n,vs=[.ref l]/\SqL X.K H l xs/\((∃cs,CL H cs xs/\n=(nub cs).length)\/∃is:List Int,xs=is.map V.int/\is.length<=1000/\n=(nub is).length)/\
  ∀p,H p=none->Q (.ref p) (upd H p (zrW p n))):=by
 rintro pins s σ H vs us Q I rv ⟨l,xs,n,rfl,sq,⟨cs,cl,rfl⟩|⟨is,rfl,le,rfl⟩,q⟩
 ·exact zr8 hc hu pins s σ H _ us Q I rv ⟨l,xs,cs,rfl,sq,cl,q⟩
 ·exact zr9 hc pins s σ H _ us Q I rv ⟨l,is,rfl,sq,le,q⟩
theorem zsa:CallR X (.builtin "len") (fun vs H Q=>∃p n,vs=[.ref p]/\H p=some (zrW p n)/\n<2 ^ 62/\Q (.int n) H):=by
 rintro pins s σ H vs us Q I rv ⟨p,n,rfl,e,hn,q⟩
 cases rv with
 |cons r1 rv=>
 cases rv
 cases r1
 obtain⟨⟨o,es,ep,t,ho,ex,hd,hf,rfl⟩,_⟩:=I.hok p _ e
 exact call_len_set ho ex hd hf (by omega) ⟨.int es.size,H,I.tok _,⟨_,rfl⟩,q⟩
end
theorem hu8{A:Around}{k:Nat}(hr:Room k A):A.units+8<cLine:=Nat.lt_of_le_of_lt (Nat.add_le_add_left (by decide:8<=64) _) hr.units
theorem zuq{K:PySem.W.Frag}{W:Addr->Prop}{H:Hp}: ∀{ds:List D} {xs:List V} {cs:List (Int×Int)},Reps K W H ds xs->zeS ds=some cs->CL H cs xs
 |[],_,cs,.nil,e=>by cases e;exact .nil
 |d::ds,_,cs,.cons h t,e=>by
  simp only[zeS,jo1,jo2] at e
  obtain⟨c,e1,cs',e2,rfl⟩:=e
  refine .cons ?_ (zuq t e2)
  unfold zrC at e1
  split at e1
  ·rename_i a b
   split at e1
   ·rename_i i8
    cases e1
    cases h with
    |tup h r=>
     cases r with
     |cons r1 r2=>
      cases r1
      cases r2 with
      |cons r3 r4=>
       cases r3
       cases r4
       exact⟨_,rfl,h,i8⟩
   ·cases e1
  ·cases e1
theorem zur{H:Hp}: ∀{cs:List (Int×Int)} {xs:List V},CL H cs xs->∀c∈cs,in8 c
 |_,_,.nil,c,hc=>(nomatch hc)
 |_,_,.cons h t,c,hc=>by
  rcases List.mem_cons.mp hc with rfl|hc
  ·obtain⟨_,_,_,z⟩:=h;exact z
  ·exact zur t c hc
theorem zus{K:PySem.W.Frag}{W:Addr->Prop}{H:Hp}: ∀{ds:List D} {xs:List V} {is:List Int},Reps K W H ds xs->zlR ds=some is->xs=is.map V.int
 |[],_,is,.nil,e=>by cases e;rfl
 |d::ds,_,is,.cons h t,e=>by
  unfold zlR at e
  split at e
  ·rename_i z
   cases z
  ·rename_i i r z
   cases z
   obtain⟨is',e2,rfl⟩:=jo2.mp e
   cases h
   rw[zus t e2];rfl
  ·cases e
theorem znX{α:Type}[DecidableEq α]: ∀l:List α,(nub l).length<=l.length
 |[]=>Nat.le_refl _
 |c::r=>by
  unfold nub
  have:=znX r
  split
  ·exact Nat.le_succ_of_le this
  ·exact Nat.succ_le_succ this
section
variable {X:Cx} {fn:Nat->List D->Option SV} {a:Expr} {ca:E} {pos p p2 pos2:Pos}
theorem zqO(hc:X.calm=true)(hu:X.A.units+8<cLine)(hg:Gl X "len")(hm:X.mg "len"=Option.none)(hg2:Gl X "set")(hm2:X.mg "set"=Option.none)(ha:IE X fn a ca)
  (h1:starEach [a] X.env=(false,eval a X.env)::starEach [] X.env) (h2:starEach [Expr.Call (.Name "set" p2) [a] [] pos2] X.env=(false,eval (Expr.Call (.Name "set" p2) [a] [] pos2) X.env)::starEach [] X.env):
  IE X fn (.Call (.Name "len" p) [.Call (.Name "set" p2) [a] [] pos2] [] pos) (.prim .nset (.cons ca .nil)):=
 .mk <| (zhg zsa hg hm PySem.boot_len (zct (ziz (zup hc hu) hg2 hm2 PyProof.Rows.Boot.«set» (zct ha.v zgM h1) (by decide) (by decide) h1 zam) zgM h2) (by decide) (by decide) h2 zam).imp fun σ H Q zz3=>by
  obtain⟨W,ρ,r,hR,he,q⟩:=zz3
  simp only[zcT,zcF,zbX,jo1,jo2] at he
  obtain⟨rs,⟨r1,e1,rs',e3,rfl⟩,e4⟩:=he
  cases e3
  refine⟨W,ρ,r1,hR,e1,fun v1 H1 s1 f1=>?_⟩
  have hsee:=zho (.cons f1 .nil)
  have e5:zj6 [zbH r1]=some r:=e4
  unfold zj6 at e5
  split at e5
  case h_2=>cases e5
  rename_i ds z
  have z1:zbH r1= .lst ds:=by simpa using z
  obtain⟨d0,ed,hs⟩:=pr1 hsee
  simp at ed
  subst ed
  rw[z1] at hs
  obtain⟨l,xs,rfl,sq,rp⟩:=hs.lst
  split at e5
  ·rename_i cs ec
   cases e5
   have cl:=zuq rp ec
   refine⟨l,xs,_,rfl,sq,.inl ⟨cs,cl,rfl⟩,fun p0 hp0=>⟨p0,_,rfl,zbe,?_,q _ _ (s1.trans (zaO hp0 _)) (.val (.int _))⟩⟩
   exact Nat.lt_trans (zi5 (zb9 (l:=cs)) fun c hm=>zur cl c (zcv.mp hm)) (by decide)
  ·obtain⟨is,ei,er⟩:=jo1.mp e5
   split at er
   case isFalse=>cases er
   rename_i le
   cases er
   refine⟨l,xs,_,rfl,sq,.inr ⟨is,zus rp ei,le,rfl⟩,fun p0 hp0=>⟨p0,_,rfl,zbe,?_,q _ _ (s1.trans (zaO hp0 _)) (.val (.int _))⟩⟩
   exact Nat.lt_of_le_of_lt (Nat.le_trans (znX is) le) (by decide)
end
end L2.LW
set_option maxHeartbeats 4000000
namespace L2.LW
open PySem PySem.Spec PySem.W PySem.Calls PyProof.Rows
noncomputable def zld(h:Heap)(v:Value)(k:List Int):Prop:=∃a o its n x y p q r t,v= .ref a/\h.get? a=some o/\o.cls= .type "tuple"/\o.data= .seq its n/\its.toList=[x,y]/\k=[p,q,r,t]/\zcQ h x [p,q]/\zcQ h y [r,t]
section
variable {X:Cx} {pins:List (Addr×Obj)} {σ:St} {H:Hp} {s:Shared} {W:Addr->Prop}
theorem zqP(I:Inv X pins σ H s): ∀{ds:List D} {xs:List V} {us:List Value} {ks:List (List Int)},Reps X.K W H ds xs->Vals xs us->prs? ds=some ks->Paired (zld s.heap) us ks
 |[],_,_,ks,.nil,r,e=>by cases r;cases e;exact .nil
 |d::ds,_,_,ks,.cons h t,r,e=>by
  unfold prs? at e
  split at e
  ·rename_i z;cases z
  ·rename_i a b c d' r' z
   cases z
   obtain⟨ks',e2,rfl⟩:=jo2.mp e
   cases r with
   |cons r1 r2=>
    refine .cons ?_ (zqP I t r2 e2)
    cases h with
    |tup hh rr=>
     cases r1
     obtain⟨its,rv,⟨o,ho,hc,n,hd⟩,_⟩:=I.tuple (.of hh)
     have pt:=zkk I rr rv (ks:=[[a,b],[c,d']]) rfl
     cases pt with
     |cons p1 pt=>
      cases pt with
      |cons p2 pt=>
       cases pt
       exact⟨_,o,_,n,_,_,a,b,c,d',rfl,ho,hc,hd,rfl,rfl,p1,p2⟩
  ·cases e
theorem znY{P:Program}{w:World}{h:Heap}{a:Addr}{k:List Int}(z:zcQ h (.ref a) k):IsTupleKey (intKind P w) h k a:=by
 obtain⟨a',o,its,n,e,h1,h2,h3,h4⟩:=z
 cases e
 refine⟨o,its,n,h1,h2,h3,?_⟩
 generalize its.toList=l at h4
 induction h4 with
 |nil=>exact .nil
 |cons i t _ ih=>exact .cons (intKind_is _ _ _ _) ih
theorem zsb{P:Program}{w:World}{A:Around}{Q:Bool->Shared->Prop}{s:Shared}{x1 y1 x2 y2:Value}{p q r t p' q' r' t':Int}(hu:A.units<cLine)(a1:zcQ s.heap x1 [p,q])(b1:zcQ s.heap y1 [r,t])(a2:zcQ s.heap x2 [p',q'])(b2:zcQ s.heap y2 [r',t'])
  (z:Q (LW.lexLt [p,q,r,t] [p',q',r',t']) s):KatLex P w A false false Q ([x1,y1].zip [x2,y2]) 0 s:=by
 have lt: ∀{v v':Value} {k k':List Int} {Q1:Bool->Shared->Prop},zcQ s.heap v k->zcQ s.heap v' k'->Q1 (LW.lexLt k k') s->wpAny (model P w) A (oneLt' false v v') Q1 (fun _ _=>False) s:=fun {v v' k k' Q1} h h' z1=>by
  obtain⟨c,o,its,n,rfl,g1,g2,g3,g4⟩:=h
  obtain⟨c',o',its',n',rfl,g1',g2',g3',g4'⟩:=h'
  refine kat_one _ _ (HT.lt_tupInts ⟨o,g1,g2,n,g3⟩ ⟨o',g1',g2',n',g3'⟩ g4 g4' hu ?_)
  rw[<-zfq]
  exact z1
 have eq: ∀{v v':Value} {k k':List Int} {Q1:Bool->Shared->Prop},zcQ s.heap v k->zcQ s.heap v' k'->Q1 (decide (k=k')) s->wpAny (model P w) A (eqBool v v') Q1 (fun _ _=>False) s:=fun {v v' k k' Q1} h h' z1=>by
  have h0:=h
  have h0':=h'
  obtain⟨c,_,_,_,rfl,_⟩:=h
  obtain⟨c',_,_,_,rfl,_⟩:=h'
  exact wpAny_eqBool_tuple (knd:=intKind P w) hu (znY h0) (znY h0') z1
 refine kat_cons (eq a1 a2 ?_)
 by_cases e:([p,q]:List Int)=[p',q']
 ·rw[decide_eq_true e]
  refine kat_yes (kat_cons (eq b1 b2 ?_))
  simp only[List.cons.injEq,and_true] at e
  obtain⟨rfl,rfl⟩:=e
  by_cases e2:([r,t]:List Int)=[r',t']
  ·rw[decide_eq_true e2]
   simp only[List.cons.injEq,and_true] at e2
   obtain⟨rfl,rfl⟩:=e2
   refine kat_yes (kat_nil ?_)
   rw[za4] at z
   exact z
  ·rw[decide_eq_false e2]
   refine kat_no (lt b1 b2 ?_)
   rw[LW.lexLt,if_pos rfl,LW.lexLt,if_pos rfl] at z
   exact z
 ·rw[decide_eq_false e]
  refine kat_no (lt a1 a2 ?_)
  have:LW.lexLt [p,q] [p',q']=LW.lexLt [p,q,r,t] [p',q',r',t']:=by
   simp only[LW.lexLt]
   by_cases e1:p=p'
   ·have e2:q≠q':=fun z=>e (by rw[e1,z])
    simp[e1,e2]
   ·simp[e1]
  rw[this]
  exact z
theorem zqQ: ∀{ds:List D} {ks:List (List Int)},prs? ds=some ks->ds=ks.map zgQ
 |[],ks,e=>by cases e;rfl
 |d::ds,ks,e=>by
  unfold prs? at e
  split at e
  ·rename_i z;cases z
  ·rename_i a b c d' r' z
   cases z
   obtain⟨ks',e2,rfl⟩:=jo2.mp e
   rw[zqQ e2];rfl
  ·cases e
theorem zfP{h:Heap}: ∀{us:List Value} {ks:List (List Int)},Paired (zld h) us ks->∃fs,KatTups h us fs/\fs.length=us.length/\∀v∈fs,∃k,zcQ h v k
 |_,_,.nil=>⟨[],.nil,rfl,fun _ z=>by cases z⟩
 |_,_,.cons hx t=>by
  obtain⟨fs,h1,h2,h3⟩:=zfP t
  obtain⟨a,o,its,n,x,y,p,q,r,t',rfl,ho,hc,hd,hi,hk,g1,g2⟩:=hx
  refine⟨x::fs,.cons ho hc hd (by rw[<-Array.getElem?_toList,hi];rfl) h1,by simp[h2],fun v hv=>?_⟩
  rcases List.mem_cons.mp hv with rfl|hv
  ·exact⟨_,g1⟩
  ·exact h3 v hv
theorem zpM(hu:X.A.units+8<cLine):CallR X (.builtin "sorted") (VR X.K (zai .sortP)):=by
 rintro pins s σ H xs us Q I rv ⟨W,ds,r,wf,hs,hf,q⟩
 replace hf:ziE ds=some r:=hf
 unfold ziE at hf
 split at hf
 case h_2=>cases hf
 rename_i l
 rw[jo1] at hf
 obtain⟨ks,e1,hf⟩:=hf
 split at hf
 case isFalse=>cases hf
 rename_i hcond
 cases hf
 obtain⟨h64,hnd⟩:=hcond
 cases hs with
 |cons h1 t=>
  cases t
  obtain⟨p,ys,rfl,hp,rp⟩:=h1.lst
  obtain⟨u,rfl,ru⟩:=zhf rv
  cases ru
  obtain⟨its,rv',pl,hz⟩:=I.list hp
  have hT:=zqP I rp rv' e1
  have hlen:its.length=ks.length:=Paired.length hT
  have hl2:=rp.length
  have hl3:=rv'.length
  let r:Nat->Int:=fun i=>rkT ks (ks.getD i [])
  have memk: ∀i,i<its.length->ks.getD i []∈ks:=fun i hi=>by
   rw[zaQ (x:=ks[i]'(by omega)) (by simp)];exact List.getElem_mem _
  have injk: ∀i j,i<its.length->j<its.length->i≠j->ks.getD i []≠ks.getD j []:=fun i j hi hj ne e=>by
   rw[zaQ (x:=ks[i]'(by omega)) (by simp),zaQ (x:=ks[j]'(by omega)) (by simp)] at e
   exact ne ((List.getElem_inj hnd).mp e)
  have zck: ∀{h':Heap},(∀b o,s.heap.get? b=some o->h'.get? b=some o)->∀{v:Value} {k:List Int},zld s.heap v k->zld h' v k:=by
   intro h' hk v k ⟨a,o,its,n,x,y,p,q,r,t,h1,h2,h3,h4,h5,h6,⟨a1,o1,i1,n1,g1,g2,g3⟩,⟨a2,o2,i2,n2,g4,g5,g6⟩⟩
   exact⟨a,o,its,n,x,y,p,q,r,t,h1,hk _ _ h2,h3,h4,h5,h6,⟨a1,o1,i1,n1,g1,hk _ _ g2,g3⟩,⟨a2,o2,i2,n2,g4,hk _ _ g5,g6⟩⟩
  refine zg0 (κ:=tuples' (Value.type "tuple" != Value.type "tuple")) (r:=r) pl.isList (by omega) (fun i j hi hj ne e=>?_) (fun h2 h' tk hk=>?_) (fun i j h' tk C hi hj hk qC=>?_) fun pm tk hpm hup=>?_
  ·rcases zcZ (injk i j hi hj ne) with z|z
   ·have:=zg1 (memk i hi) z
    have e:rkT ks (ks.getD i [])=rkT ks (ks.getD j []):=e
    omega
   ·have:=zg1 (memk j hj) z
    have e:rkT ks (ks.getD i [])=rkT ks (ks.getD j []):=e
    omega
  ·obtain⟨fs,f1,f2,f3⟩:=zfP (Paired.imp' (fun v k z=>zck hk z) hT)
   exact kat_kind (s:={ s with heap:=h',toks:=tk }) f1 (by omega) (fun v hv=>by
    obtain⟨k,a,o,i1,n,rfl,g1,g2,_⟩:=f3 v hv
    exact g2▸(Looks.ld g1).andThen .now) (by simp) ⟨rfl,tk,rfl⟩
  ·obtain⟨x1,k1,a1,a2,a3⟩:=zc0 hT hi
   obtain⟨x2,k2,b1,b2,b3⟩:=zc0 hT hj
   rw[zaQ a1,zaQ b1]
   obtain⟨a,o,i1,n,u1,u2,w1,w2,w3,w4,rfl,c1,c2,c3,c4,c5,c6,c7⟩:=zck hk a3
   obtain⟨b,o',i2,n',u1',u2',w1',w2',w3',w4',rfl,d1,d2,d3,d4,d5,d6,d7⟩:=zck hk b3
   have er:decide (r i<r j)=LW.lexLt k1 k2:=by
    show decide (rkT ks (ks.getD i [])<rkT ks (ks.getD j []))=_
    by_cases e:i=j
    ·subst e
     rw[a2] at b2;cases b2
     rw[za4];simp
    ·have:=zhD (memk i hi) (memk j hj) (injk i j hi hj e)
     rw[zaQ a2,zaQ b2] at this
     rw[zaQ a2,zaQ b2]
     exact this
   rw[er] at qC
   refine kat_lt (s:={ s with heap:=h',toks:=tk }) c1 c3 d1 d3 ?_
   have sz:decide (i1.size<i2.size)=false:=by rw[<-Array.length_toList,<-Array.length_toList,c4,d4];rfl
   rw[sz,c4,d4]
   subst c5
   subst d5
   exact zsb (s:={ s with heap:=h',toks:=tk }) (show X.A.in1.in1.units<cLine by simp;omega) c6 c7 d6 d7 (qC tk)
  ·obtain⟨e,he⟩:=sortedAll_at s.heap its (pm.toList.map fun i=>its.getD i Value.none).toArray
   have hlt: ∀i∈pm.toList,i<its.length:=fun i hi=>by
    have:=(Array.perm_iff_toList_perm.mp hpm.perm).mem_iff.mp hi
    simpa using this
   have fr:H (s.heap.objs.size+1)=Option.none:=I.hok.fresh (Nat.le_succ _)
   have hperm:(pm.toList.map fun i=>ks.getD i []).Perm ks:=by
    have h1:=(Array.perm_iff_toList_perm.mp hpm.perm).map fun i=>ks.getD i []
    refine h1.trans (List.Perm.of_eq ?_)
    apply List.ext_getElem
    ·simp[hlen]
    ·intro i h1 h2;simp at h1;simp[h1,h2]
   have hupk:(pm.toList.map fun i=>ks.getD i []).Pairwise zki:=by
    rw[List.pairwise_iff_getElem]
    intro i j hi hj hij
    rw[List.length_map,Array.length_toList,hpm.size] at hi hj
    have h1:=hup i j hij (by omega)
    have li:=hpm.lt i hi
    have lj:=hpm.lt j hj
    simp only[List.getElem_map,Array.getElem_toList]
    have gi:pm.getD i 0=pm[i]'(by rw[hpm.size];exact hi):=by simp[Array.getD,hpm.size,hi]
    have gj:pm.getD j 0=pm[j]'(by rw[hpm.size];exact hj):=by simp[Array.getD,hpm.size,hj]
    unfold kk at h1
    rw[gi] at h1 li
    rw[gj] at h1 lj
    have hne:pm[i]'(by rw[hpm.size];exact hi)≠pm[j]'(by rw[hpm.size];exact hj):=fun z=>by rw[z] at h1;omega
    have:=zhD (memk _ li) (memk _ lj) (injk _ _ li lj hne)
    show LW.lexLt _ _=true
    rw[<-this,decide_eq_true_iff]
    exact h1
   have heq:(pm.toList.map fun i=>ks.getD i [])=zey ks:=zkj (hperm.trans (zb4 ks).symm) hupk (zd5 hnd)
   have hds:(pm.toList.map fun i=>l.getD i .non)=(zey ks).map zgQ:=by
    rw[<-heq,List.map_map]
    apply List.map_congr_left
    intro i hi
    have hi':=hlt i hi
    rw[zqQ e1]
    show (ks.map zgQ).getD i .non=zgQ (ks.getD i [])
    rw[zaQ (x:=zgQ (ks[i]'(by omega))) (by simp[show i<ks.length by omega]),zaQ (x:=ks[i]'(by omega)) (by simp)]
   have hrep:=ziV rp pm.toList fun i hi=>by have:=hlt i hi;omega
   rw[hds] at hrep
   have hvals:=ziU rv' pm.toList fun i hi=>hlt i hi
   refine⟨.ref (s.heap.objs.size+1),upd H (s.heap.objs.size+1) (.lst (pm.toList.map fun i=>ys.getD i .non)),I.laid (t':=tk) (fun _ _=>sortedAll_old) (Nat.le_succ _) ⟨?_,_,e,hvals,?_⟩,rfl,q _ _ (zaO fr _) (zcV fr hrep)⟩
   ·rw[List.length_map,Array.length_toList,hpm.size];exact Nat.le_of_lt (zcS (by omega))
   ·simpa [seqObj] using he
end
end L2.LW
set_option maxHeartbeats 4000000
namespace L2.LW
open PySem PySem.Spec PySem.W PySem.Calls PyProof.Rows
noncomputable def SIt(h:Heap)(it d:Addr)(sl i n ep:Nat):Prop:=
 ∃o,h.get? it=some o/\o.cls= .type "set_iterator"/\o.data= .fields #[.int sl 0,.int i 0,.ref d,.int n 0,.int ep 0]
theorem SIt.typeIs{s:Shared}{it d:Addr}{sl i n ep:Nat}(x:SIt s.heap it d sl i n ep):s.TypeIs (.ref it) "set_iterator":=by
 obtain⟨o,ho,hc,_⟩:=x
 exact⟨o,ho,hc⟩
end L2.LW
set_option maxHeartbeats 4000000
namespace L2.LW
open PySem
section
variable {fn:Nat->List D->Option SV} {fa:Nat->List D->Option Ans} {fuel:Nat} {ρ:Env}
@[simp] theorem zyC{i:Int}:evE fn (.int i) ρ=some (.val (.int i)):=rfl
@[simp] theorem zzN{i:Bool}:evE fn (.bl i) ρ=some (.val (.bl i)):=rfl
@[simp] theorem zyD:evE fn .non ρ=some (.val .non):=rfl
@[simp] theorem zyE{i:Str}:evE fn (.str i) ρ=some (.val (.str i)):=rfl
@[simp] theorem znZ{i:Nat}:evE fn (.var i) ρ=look ρ i:=rfl
@[simp] theorem zwr{p:Prim}{es:Es}:evE fn (.prim p es) ρ=(zcx fn es ρ).bind fun rs=>zai p (rs.map zbH):=rfl
@[simp] theorem zyF{es:Es}:evE fn (.tup es) ρ=(zcx fn es ρ).bind fun rs=>(ziF rs).map fun ds=>.val (.tup ds):=rfl
@[simp] theorem zyG{es:Es}:evE fn (.lst es) ρ=(zcx fn es ρ).bind fun rs=>(ziF rs).map fun ds=>.obj true (.lst ds):=rfl
noncomputable def zyH(r:SV)(k:Option SV):Option SV:=match r with
 | .val (.bl true)=>k
 | .val (.bl false)=>some (.val (.bl false))
 |_=>none
noncomputable def orV(r:SV)(k:Option SV):Option SV:=match r with
 | .val (.bl true)=>some (.val (.bl true))
 | .val (.bl false)=>k
 |_=>none
noncomputable def zzO(r:SV):Option SV:=match r with
 | .val (.bl b)=>some (.val (.bl (!b)))
 |_=>none
@[simp] theorem zyI{b:Bool}{k:Option SV}:zyH (.val (.bl b)) k=if b then k else some (.val (.bl false)):=by cases b<;>rfl
@[simp] theorem zzP{b:Bool}{k:Option SV}:orV (.val (.bl b)) k=if b then some (.val (.bl true)) else k:=by cases b<;>rfl
@[simp] theorem zyJ{b:Bool}:zzO (.val (.bl b))=some (.val (.bl (!b))):=rfl
@[simp] theorem zyK{a b:E}:evE fn (.and a b) ρ=(evE fn a ρ).bind fun r=>zyH r (evE fn b ρ):=rfl
@[simp] theorem zzQ{a b:E}:evE fn (.or a b) ρ=(evE fn a ρ).bind fun r=>orV r (evE fn b ρ):=rfl
@[simp] theorem zyL{a:E}:evE fn (.not a) ρ=(evE fn a ρ).bind zzO:=rfl
@[simp] theorem zut{p q:Prim}{a b c:E}:evE fn (.chain p q a b c) ρ=(evE fn a ρ).bind fun x=>(evE fn b ρ).bind fun y=>(zai p [zbH x,zbH y]).bind fun z=>zyH z ((evE fn c ρ).bind fun w=>zai q [zbH y,zbH w]):=rfl
@[simp] theorem zyM{c a b:E}:evE fn (.ite c a b) ρ=(evT fn c ρ).bind fun k=>if k then evE fn a ρ else evE fn b ρ:=rfl
@[simp] theorem zws{f:Nat}{es:Es}:evE fn (.call f es) ρ=(zcx fn es ρ).bind fun rs=>zez rs (fn f (rs.map zbH)):=rfl
theorem zpN{g:Bool}{src:Es}{cond elt:E}:evE fn (.comp g src cond elt) ρ=(zcx fn src ρ).bind fun rs=>(zaI g rs).bind fun ds=>
  if ds.length<=line then (zdG (fun d=>evT fn cond (some (.val d)::ρ)) (fun d=>evE fn elt (some (.val d)::ρ)) ds).map fun l=>.obj true (.lst l) else none:=rfl
@[simp] theorem zwt{t:Bool}:evE fn (.dnew t) ρ=some (.obj true (.dct t [] [])):=rfl
@[simp] theorem zwu{t:Bool}{k v:E}:evE fn (.done t k v) ρ=(evE fn k ρ).bind fun x=>(evE fn v ρ).bind fun y=>(toD x).bind fun a=>(toD y).bind fun b=>if zbW t a then some (.obj true (.dct t [a] [b])) else none:=rfl
@[simp] theorem zle:zcx fn .nil ρ=some []:=rfl
@[simp] theorem zi6{e:E}{es:Es}:zcx fn (.cons e es) ρ=(evE fn e ρ).bind fun r=>(zcx fn es ρ).map (r:: ·):=rfl
@[simp] theorem zyN{a b:E}:evT fn (.and a b) ρ=(evT fn a ρ).bind fun k=>if k then evT fn b ρ else some false:=rfl
@[simp] theorem zzR{a b:E}:evT fn (.or a b) ρ=(evT fn a ρ).bind fun k=>if k then some true else evT fn b ρ:=rfl
@[simp] theorem zyO{a:E}:evT fn (.not a) ρ=(evT fn a ρ).map (!·):=rfl
@[simp] theorem zyP{i:Int}:evT fn (.int i) ρ=some (i != 0):=rfl
@[simp] theorem zuu{i:Bool}:evT fn (.bl i) ρ=some i:=rfl
@[simp] theorem zyQ{i:Nat}:evT fn (.var i) ρ=(look ρ i).bind zbw:=rfl
@[simp] theorem zwv{p:Prim}{es:Es}:evT fn (.prim p es) ρ=(zcx fn es ρ).bind fun rs=>(zai p (rs.map zbH)).bind zbw:=rfl
@[simp] theorem zww{f:Nat}{es:Es}:evT fn (.call f es) ρ=(zcx fn es ρ).bind fun rs=>(zez rs (fn f (rs.map zbH))).bind zbw:=rfl
noncomputable def zzS(r:SV)(k:Option Bool):Option Bool:=match r with
 | .val (.bl true)=>k
 | .val (.bl false)=>some false
 |_=>none
@[simp] theorem zyR{b:Bool}{k:Option Bool}:zzS (.val (.bl b)) k=if b then k else some false:=by cases b<;>rfl
@[simp] theorem zuv{p q:Prim}{a b c:E}:evT fn (.chain p q a b c) ρ=(evE fn a ρ).bind fun x=>(evE fn b ρ).bind fun y=>(zai p [zbH x,zbH y]).bind fun z=>zzS z ((evE fn c ρ).bind fun w=>(zai q [zbH y,zbH w]).bind zbw):=rfl
@[simp] theorem zwx{e:E}:exS fa fuel (.expr e) ρ=(evE (prj fa) e ρ).map fun _=>(.nx,ρ):=rfl
@[simp] theorem zsc{i:Nat}{e:E}:exS fa fuel (.asg i e) ρ=(evE (prj fa) e ρ).bind fun r=>if r.lent|| !free ρ i then none else some (.nx,ρ.set i (some r)):=rfl
noncomputable def zbn:Option (Option SV)->Bool
 |some (some (.io _))=>false
 |_=>true
@[simp] theorem zn0{i:Nat}:free ρ i=zbn ρ[i]? :=by
 unfold free zbn
 rcases h:ρ[i]? with _|_|(d|⟨o,d⟩|d)<;>rfl
@[simp] theorem zsO:zbn none=true:=rfl
@[simp] theorem zwy:zbn (some none)=true:=rfl
@[simp] theorem zbB{d:D}:zbn (some (some (.val d)))=true:=rfl
@[simp] theorem zuw{o:Bool}{d:D}:zbn (some (some (.obj o d)))=true:=rfl
noncomputable def zyS(ρ:Env)(i j:Nat):Option (Option SV)->Option (Fl×Env)
 |some (some (.val d))=>some (.nx,ρ.set i (some (.val d)))
 |some (some (.obj _ d))=>some (.nx,(ρ.set j (some (.val d))).set i (some (.val d)))
 |_=>none
@[simp] theorem zwz{i j:Nat}{d:D}:zyS ρ i j (some (some (.val d)))=some (.nx,ρ.set i (some (.val d))):=rfl
@[simp] theorem zwA{i j:Nat}{o:Bool}{d:D}:zyS ρ i j (some (some (.obj o d)))=some (.nx,(ρ.set j (some (.val d))).set i (some (.val d))):=rfl
@[simp] theorem zyT{i j:Nat}:exS fa fuel (.mov i j) ρ=if free ρ i then zyS ρ i j ρ[j]? else none:=by
 rw[zqy]
 rcases h:ρ[j]? with _|_|(d|⟨o,d⟩|d)<;>rfl
noncomputable def zwB(ρ:Env)(j:Nat):Option (Option SV)->Option (List D×Env)
 |some (some (.val d))=>(zgs d).map fun l=>(l,ρ)
 |some (some (.obj _ (.lst ds)))=>some (ds,ρ.set j (some (.val (.lst ds))))
 |_=>none
@[simp] theorem zwC{j:Nat}{d:D}:zwB ρ j (some (some (.val d)))=(zgs d).map fun l=>(l,ρ):=rfl
@[simp] theorem zwD{j:Nat}{o:Bool}{ds:List D}:zwB ρ j (some (some (.obj o (.lst ds))))=some (ds,ρ.set j (some (.val (.lst ds)))):=rfl
@[simp] theorem zux{j:Nat}:zgR ρ j=zwB ρ j ρ[j]? :=by
 unfold zgR zwB
 rcases h:ρ[j]? with _|_|(d|⟨o,d⟩|d)<;>rfl
@[simp] theorem zuy{l:List D}:zgs (.tup l)=some l:=rfl
@[simp] theorem zuz{l:List D}:zgs (.lst l)=some l:=rfl
noncomputable def zAR(ρ:Env)(i:Nat)(x:SV)(r:Option SV):Option D->Option (Fl×Env)
 |some (.lst ds)=>r.bind fun r=>(toD r).bind fun d=>if ds.length<line then some (.nx,ρ.set i (some (x.put (.lst (ds++[d]))))) else none
 |_=>none
noncomputable def zyU(ρ:Env)(i:Nat)(r:Option SV):Option (Option SV)->Option (Fl×Env)
 |some (some x)=>zAR ρ i x r x.cell
 |_=>none
@[simp] theorem zpO{i:Nat}{r:Option SV}{ds:List D}:zyU ρ i r (some (some (.obj true (.lst ds))))=r.bind fun r=>(toD r).bind fun d=>if ds.length<line then some (.nx,ρ.set i (some (.obj true (.lst (ds++[d]))))) else none:=rfl
@[simp] theorem zyV{i:Nat}{e:E}:exS fa fuel (.app i e) ρ=zyU ρ i (evE (prj fa) e ρ) ρ[i]? :=by
 rw[zqz]
 rcases h:ρ[i]? with _|_|(d|⟨_|_,d⟩|d)
 ·rfl
 ·rfl
 ·rfl
 ·rfl
 ·cases d<;>rfl
 ·cases d<;>rfl
noncomputable def zyW(ρ:Env)(i:Nat)(x:SV)(rk rv:Option SV):Option D->Option (Fl×Env)
 |some (.dct t ks vs)=>rv.bind fun r=>(toD r).bind fun d=>rk.bind fun r=>(toD r).bind fun a=>if zbW t a&&decide (ks.length<line) then some (.nx,ρ.set i (some (x.put (zkO t ks vs a d)))) else none
 |_=>none
noncomputable def zn1(ρ:Env)(i:Nat)(rk rv:Option SV):Option (Option SV)->Option (Fl×Env)
 |some (some x)=>zyW ρ i x rk rv x.cell
 |_=>none
@[simp] theorem zuA{i:Nat}{rk rv:Option SV}{t:Bool}{ks vs:List D}:zn1 ρ i rk rv (some (some (.obj true (.dct t ks vs))))=rv.bind fun r=>(toD r).bind fun d=>rk.bind fun r=>(toD r).bind fun a=>if zbW t a&&decide (ks.length<line) then some (.nx,ρ.set i (some (.obj true (zkO t ks vs a d)))) else none:=rfl
@[simp] theorem zlf{i:Nat}{rk rv:Option SV}{t:Bool}{ks vs:List D}:zn1 ρ i rk rv (some (some (.io (.dct t ks vs))))=rv.bind fun r=>(toD r).bind fun d=>rk.bind fun r=>(toD r).bind fun a=>if zbW t a&&decide (ks.length<line) then some (.nx,ρ.set i (some (.io (zkO t ks vs a d)))) else none:=rfl
@[simp] theorem zwE{i:Nat}{k v:E}:exS fa fuel (.dset i k v) ρ=zn1 ρ i (evE (prj fa) k ρ) (evE (prj fa) v ρ) ρ[i]? :=by
 rw[zm3]
 rcases h:ρ[i]? with _|_|(d|⟨_|_,d⟩|d)
 ·rfl
 ·rfl
 ·rfl
 ·rfl
 ·cases d<;>rfl
 ·cases d<;>rfl
@[simp] theorem zwF{i j k:Nat}{e:E}:exS fa fuel (.unp3 i j k e) ρ=(evE (prj fa) e ρ).bind (ztM ρ i j k):=rfl
@[simp] theorem zwG{i j:Nat}:exS fa fuel (.dupd i j) ρ=ztL ρ i j:=rfl
@[simp] theorem zuB{m:M}:exS fa fuel (.exprM m) ρ=(evM fa m ρ).map fun x=>(.nx,x.2):=rfl
@[simp] theorem zwH{i:Nat}{m:M}:exS fa fuel (.asgM i m) ρ=(evM fa m ρ).bind fun x=>if x.1.lent|| !free x.2 i then none else some (.nx,x.2.set i (some (.val (zbH x.1)))):=rfl
@[simp] theorem zyX{c:E}{m:M}{a b:Ss}:exS fa fuel (.ifO c m a b) ρ=(evT (prj fa) c ρ).bind fun k=>if k then zaR fa fuel a ρ else (evM fa m ρ).bind fun x=>(zbw x.1).bind fun k=>if k then zaR fa fuel a x.2 else zaR fa fuel b x.2:=rfl
noncomputable def zqR(ρ:Env)(xs:List AV):Ans->Option (SV×Env)
 | .ok r outs=>if r.fine&&outs.all zbU then (zfE ρ xs outs).map fun ρ'=>(r,ρ') else none
 | .ex _=>none
@[simp] theorem zuC{xs:List AV}{r:SV}{outs:List D}:zqR ρ xs (.ok r outs)=if r.fine&&outs.all zbU then (zfE ρ xs outs).map fun ρ'=>(r,ρ') else none:=rfl
@[simp] theorem zwI{f:Nat}{ma:MA}:evM fa (.call f ma) ρ=(zgq (prj fa) ma ρ).bind fun xs=>(fa f (xs.map zqt)).bind (zqR ρ xs):=rfl
noncomputable def zzT(p:Prim)(k:Option (SV×Env)):SV->Option (SV×Env)
 | .val d=>if plain d then k.bind fun y=>(zai p [d,zbH y.1]).map fun z=>(z,y.2) else none
 |_=>none
@[simp] theorem zwJ{p:Prim}{k:Option (SV×Env)}{d:D}:zzT p k (.val d)=if plain d then k.bind fun y=>(zai p [d,zbH y.1]).map fun z=>(z,y.2) else none:=rfl
@[simp] theorem zzU{p:Prim}{a:E}{m:M}:evM fa (.op p a m) ρ=(evE (prj fa) a ρ).bind (zzT p (evM fa m ρ)):=rfl
@[simp] theorem zwK:zgq fn .nil ρ=some []:=rfl
@[simp] theorem zzV{c:E}{r:MA}:zgq fn (.e c r) ρ=(evE fn c ρ).bind fun x=>(zkQ x).bind fun a=>(zgq fn r ρ).map (a:: ·):=rfl
noncomputable def zpP:Option (Option SV)->Option D
 |some (some x)=>x.cell
 |_=>none
@[simp] theorem zsP{i:Nat}:zdH ρ i=zpP ρ[i]? :=by
 unfold zdH zpP
 rcases h:ρ[i]? with _|_|(d|⟨_|_,d⟩|d)<;>rfl
@[simp] theorem zuD{d:D}:zpP (some (some (.obj true d)))=some d:=rfl
@[simp] theorem zwL{d:D}:zpP (some (some (.io d)))=some d:=rfl
@[simp] theorem zzW{i:Nat}{r:MA}:zgq fn (.s i r) ρ=(zdH ρ i).bind fun d=>if zgt d then (zgq fn r ρ).map (.s i d:: ·) else none:=rfl
@[simp] theorem zzX{t:Bool}{r:MA}:zgq fn (.n t r) ρ=(zgq fn r ρ).map (.n t:: ·):=rfl
@[simp] theorem zwM:zfE ρ [] []=some ρ:=rfl
@[simp] theorem zzY{i:Nat}{d d':D}{r:List AV}{ds:List D}:zfE ρ (.s i d::r) (d'::ds)=zfE (zsM ρ i d') r ds:=rfl
@[simp] theorem zzZ{t:Bool}{d':D}{r:List AV}{ds:List D}:zfE ρ (.n t::r) (d'::ds)=zfE ρ r ds:=rfl
@[simp] theorem zz7{d:D}{r:List AV}{ds:List D}:zfE ρ (.e d::r) ds=zfE ρ r ds:=rfl
@[simp] theorem zz8{d:List D}{r:List AV}{ds:List D}:zfE ρ (.l d::r) ds=zfE ρ r ds:=rfl
noncomputable def zpQ(ρ:Env)(i:Nat)(d:D):Option (Option SV)->Env
 |some (some x)=>ρ.set i (some (x.put d))
 |_=>ρ
@[simp] theorem zyY{i:Nat}{d:D}:zsM ρ i d=zpQ ρ i d ρ[i]? :=by
 unfold zsM zpQ
 rcases h:ρ[i]? with _|_|(d|⟨_|_,d⟩|d)<;>rfl
@[simp] theorem zuE{i:Nat}{d d0:D}:zpQ ρ i d (some (some (.obj true d0)))=ρ.set i (some (.obj true d)):=rfl
@[simp] theorem zwN{i:Nat}{d d0:D}:zpQ ρ i d (some (some (.io d0)))=ρ.set i (some (.io d)):=rfl
@[simp] theorem zz9{d:D}:zqt (.e d)=d:=rfl
@[simp] theorem zAa{d:List D}:zqt (.l d)= .lst d:=rfl
@[simp] theorem zAb{i:Nat}{d:D}:zqt (.s i d)=d:=rfl
@[simp] theorem zAc{t:Bool}:zqt (.n t)= .dct t [] []:=rfl
@[simp] theorem zwO{l:List D}:zkQ (.val (.tup l))=if plain (.tup l) then some (.e (.tup l)) else none:=rfl
@[simp] theorem zwP{i:Int}:zkQ (.val (.int i))=some (.e (.int i)):=by simp[zkQ,plain]
@[simp] theorem zyZ{i:Bool}:zkQ (.val (.bl i))=some (.e (.bl i)):=by simp[zkQ,plain]
@[simp] theorem zwQ{l:List D}:zkQ (.val (.lst l))=if zbr l then some (.l l) else none:=rfl
@[simp] theorem zwR{o:Bool}{l:List D}:zkQ (.obj o (.lst l))=if zbr l then some (.l l) else none:=rfl
@[simp] theorem zuF{t:Bool}{ks vs:List D}:zgt (.dct t ks vs)=zbr vs:=rfl
@[simp] theorem zsQ{t:Bool}{ks vs:List D}:zbU (.dct t ks vs)=zbr vs:=rfl
@[simp] theorem zsR{vs:List D}:zbU (.lst vs)=zbr vs:=rfl
@[simp] theorem zwS{d:D}:SV.fine (.val d)=plain d:=rfl
@[simp] theorem zwT{d:D}:SV.fine (.obj true d)=zbU d:=rfl
@[simp] theorem zy0{e:E}:exS fa fuel (.ret e) ρ=(evE (prj fa) e ρ).bind fun r=>if r.lent then none else some (.rt r,ρ):=rfl
noncomputable def zy1(ρ:Env)(i:Nat):Option (Option SV)->Option (Fl×Env)
 |some (some (.val d))=>some (.rt (.val d),ρ)
 |some (some (.obj _ d))=>some (.rt (.obj true d),ρ.set i none)
 |_=>none
@[simp] theorem zwU{i:Nat}{d:D}:zy1 ρ i (some (some (.val d)))=some (.rt (.val d),ρ):=rfl
@[simp] theorem zwV{i:Nat}{o:Bool}{d:D}:zy1 ρ i (some (some (.obj o d)))=some (.rt (.obj true d),ρ.set i none):=rfl
@[simp] theorem zwW{i:Nat}:exS fa fuel (.retV i) ρ=zy1 ρ i ρ[i]? :=by
 rw[zm4]
 rcases h:ρ[i]? with _|_|(d|⟨o,d⟩|d)<;>rfl
@[simp] theorem zwX:exS fa fuel .retN ρ=some (.rt (.val .non),ρ):=rfl
@[simp] theorem zy2{c:E}{a b:Ss}:exS fa fuel (.ifs c a b) ρ=(evT (prj fa) c ρ).bind fun k=>if k then zaR fa fuel a ρ else zaR fa fuel b ρ:=rfl
theorem zdO{i:Nat}{g:Bool}{src:Es}{body:Ss}:exS fa fuel (.for_ i g src body) ρ=(zcx (prj fa) src ρ).bind fun rs=>if rs.any SV.lent|| !free ρ i then none else (zaI g rs).bind fun ds=>zeA i (zaR fa fuel body) ds ρ:=rfl
theorem zlg{i j:Nat}{body:Ss}:exS fa fuel (.forV i j body) ρ=if free ρ i then (zgR ρ j).bind fun x=>zeA i (zaR fa fuel body) x.1 x.2 else none:=rfl
theorem zi7{c:E}{body:Ss}:exS fa fuel (.while_ c body) ρ=zcM (evT (prj fa) c) (zaR fa fuel body) fuel ρ:=rfl
noncomputable def zpR(ρ:Env)(j:Nat):Option (Option SV)->Env
 |some (some (.obj true d))=>ρ.set j (some (.val d))
 |_=>ρ
@[simp] theorem zy3{j:Nat}:zqu ρ j=zpR ρ j ρ[j]? :=by
 unfold zqu zpR
 rcases h:ρ[j]? with _|_|(d|⟨_|_,d⟩|d)<;>rfl
@[simp] theorem zuG{j:Nat}{d:D}:zpR ρ j (some (some (.val d)))=ρ:=rfl
@[simp] theorem zuH{j:Nat}{d:D}:zpR ρ j (some (some (.obj true d)))=ρ.set j (some (.val d)):=rfl
@[simp] theorem zy4{js:List Nat}{s:S}:exS fa fuel (.frz js s) ρ=exS fa fuel s (js.foldl zqu ρ):=rfl
@[simp] theorem zy5:exS fa fuel .brk ρ=some (.br,ρ):=rfl
@[simp] theorem zy6:exS fa fuel .cnt ρ=some (.ct,ρ):=rfl
@[simp] theorem zwY:exS fa fuel .pass ρ=some (.nx,ρ):=rfl
@[simp] theorem zwZ:exS fa fuel .stop ρ=none:=rfl
@[simp] theorem zw0:zaR fa fuel .nil ρ=some (.nx,ρ):=rfl
noncomputable def andThen(x:Fl×Env)(k:Env->Option (Fl×Env)):Option (Fl×Env):=match x.1 with
 | .nx=>k x.2
 |_=>some x
@[simp] theorem zsS{ρ:Env}{k:Env->Option (Fl×Env)}:andThen (.nx,ρ) k=k ρ:=rfl
@[simp] theorem zsT{ρ:Env}{k:Env->Option (Fl×Env)}:andThen (.br,ρ) k=some (.br,ρ):=rfl
@[simp] theorem zsU{ρ:Env}{k:Env->Option (Fl×Env)}:andThen (.ct,ρ) k=some (.ct,ρ):=rfl
@[simp] theorem zsV{ρ:Env}{r:SV}{k:Env->Option (Fl×Env)}:andThen (.rt r,ρ) k=some (.rt r,ρ):=rfl
@[simp] theorem zcA{s:S}{ss:Ss}:zaR fa fuel (.cons s ss) ρ=(exS fa fuel s ρ).bind fun x=>andThen x (zaR fa fuel ss):=by
 exact id rfl
noncomputable def zgx:Option (Fl×Env)->Option SV
 |some (.rt r,_)=>some r
 |some (.nx,_)=>some (.val .non)
 |_=>none
@[simp] theorem zw1{r:SV}{ρ:Env}:zgx (some (.rt r,ρ))=some r:=rfl
@[simp] theorem zw2{ρ:Env}:zgx (some (.nx,ρ))=some (.val .non):=rfl
@[simp] theorem zsW:zgx none=none:=rfl
@[simp] theorem zuI{c:Prop}[Decidable c]{a b:Option (Fl×Env)}:zgx (if c then a else b)=if c then zgx a else zgx b:=by split<;>rfl
end
noncomputable def zlZ:Option (Option SV)->Option SV
 |some (some (.val d))=>some (.val d)
 |some (some (.obj _ d))=>some (.obj false d)
 |some (some (.io d))=>some (.obj false d)
 |_=>none
@[simp] theorem zy7{ρ:Env}{i:Nat}:look ρ i=zlZ ρ[i]? :=by
 unfold look zlZ
 rcases h:ρ[i]? with _|_|(d|⟨o,d⟩|d)<;>rfl
@[simp] theorem zuJ{d:D}:zlZ (some (some (.val d)))=some (.val d):=rfl
@[simp] theorem zuK{o:Bool}{d:D}:zlZ (some (some (.obj o d)))=some (.obj false d):=rfl
@[simp] theorem zw3{d:D}:zlZ (some (some (.io d)))=some (.obj false d):=rfl
@[simp] theorem zsX:zlZ (some none)=none:=rfl
@[simp] theorem zw4{d:D}:zbH (.val d)=d:=rfl
@[simp] theorem zw5{o:Bool}{d:D}:zbH (.obj o d)=d:=rfl
@[simp] theorem zkn{d:D}:toD (.val d)=some d:=rfl
@[simp] theorem zy8{d:D}:toD (.obj true d)=some d:=rfl
@[simp] theorem zw6:ziF []=some []:=rfl
@[simp] theorem zuL{r:SV}{rs:List SV}:ziF (r::rs)=(toD r).bind fun d=>(ziF rs).map (d:: ·):=rfl
@[simp] theorem zw7{d:D}:SV.lent (.val d)=false:=rfl
@[simp] theorem zw8{d:D}:SV.lent (.obj true d)=false:=rfl
@[simp] theorem zw9{d:D}:SV.lent (.obj false d)=true:=rfl
@[simp] theorem zxa{i:Int}:zb7 i=some (.val (.int i)):=rfl
@[simp] theorem zy9{i:Bool}:zeR i=some (.val (.bl i)):=rfl
@[simp] theorem zxb{b:Bool}:zbw (.val (.bl b))=some b:=rfl
@[simp] theorem zuM{i:Int}:zbw (.val (.int i))=some (i != 0):=rfl
@[simp] theorem zuN:zbw (.val .non)=some false:=rfl
@[simp] theorem zuO{l:List D}:zbw (.val (.tup l))=some (!l.isEmpty):=rfl
@[simp] theorem zuP{l:List D}:zbw (.val (.lst l))=some (!l.isEmpty):=rfl
@[simp] theorem zuQ{o:Bool}{l:List D}:zbw (.obj o (.lst l))=some (!l.isEmpty):=rfl
theorem zn2{rs:List SV}{r:Option SV}(h:rs.any SV.lent=false):zez rs r=r:=by
 unfold zez;rw[h];cases r<;>rfl
theorem zfQ{rs:List SV}{x:SV}(h:x.plain=true):zez rs (some x)=some x:=by
 unfold zez;simp[h]
@[simp] theorem zqS{rs:List SV}{x:Option SV}(h:rs.any SV.lent=false):zez rs x=x:=zn2 h
@[simp] theorem zxc{rs:List SV}{x:SV}(h:x.plain=true):zez rs (some x)=some x:=zfQ h
@[simp] theorem zsY{d:D}:SV.plain (.val d)=plain d:=rfl
@[simp] theorem zsZ{o:Bool}{d:D}:SV.plain (.obj o d)=zbU d:=rfl
@[simp] theorem zuR{i:Int}:plain (.int i)=true:=by simp[plain]
@[simp] theorem zxd{i:Bool}:plain (.bl i)=true:=by simp[plain]
@[simp] theorem zuS:plain .non=true:=by simp[plain]
@[simp] theorem zuT{i:Str}:plain (.str i)=true:=by simp[plain]
@[simp] theorem zuU{l:List D}:plain (.tup l)=zbr l:=rfl
@[simp] theorem zuV{l:List D}:plain (.lst l)=false:=rfl
@[simp] theorem zuW{t:Bool}{a b:List D}:plain (.dct t a b)=false:=rfl
@[simp] theorem zs0:zbr []=true:=rfl
@[simp] theorem zsd{x:D}{xs:List D}:zbr (x::xs)=(plain x&&zbr xs):=rfl
@[simp] theorem zn3{P:Nat->Option Fn}{fuel n:Nat}:prj (zaq P fuel n)=za7 P fuel n:=rfl
theorem zi8: ∀(k:Nat) (ds:List D),zdI [] k ds=ds.map fun d=>some (.val d)
 |_,[]=>rfl
 |k,d::r=>by simp[zdI,zi8 (k+1) r]
theorem zse(x:Option (Fl×Env)):(match zoX [] x with|some (.ok r [])=>some r|_=>none)=zgx x:=by
 rcases x with _|⟨_|_|_|r,ρ⟩<;>rfl
theorem zl0{P:Nat->Option Fn}{fuel n i:Nat}{F:Fn}{ds:List D}(h:P i=some F)(hl:ds.length=F.np)(hio:F.io=[])(hx:F.xb=none:=by rfl):
  za7 P fuel (n+1) i ds=zgx (zaR (zaq P fuel n) fuel F.body (ds.map (fun d=>some (.val d))++List.replicate (F.nl-F.np) none)):=by
 unfold za7 prj
 rw[zaq,h]
 simp only[Option.bind_some,if_pos hl,hio,zi8,hx]
 exact zse _
theorem zl1{P:Nat->Option Fn}{fuel n i:Nat}{F:Fn}{ds:List D}(h:P i=some F)(hl:ds.length=F.np)(hx:F.xb=none:=by rfl):
  zaq P fuel (n+1) i ds=zoX F.io (zaR (zaq P fuel n) fuel F.body (zdI F.io 0 ds++List.replicate (F.nl-F.np) none)):=by
 rw[zaq,h]
 simp only[Option.bind_some,if_pos hl,hx]
@[simp] theorem zAS{a b:Int}:zai .add [.int a,.int b]=some (.val (.int (a+b))):=rfl
theorem zlh{a b:List D}(h:a.length+b.length<=line):zai .add [.lst a,.lst b]=some (.obj true (.lst (a++b))):=by simp only[zai,zwj,if_pos h]
@[simp] theorem zAT{a b:Int}:zai .sub [.int a,.int b]=some (.val (.int (a-b))):=rfl
theorem zuX{a b:Int}(h: -(2 ^ 64)<a/\a<2 ^ 64):zai .mul [.int a,.int b]=some (.val (.int (a*b))):=by simp only[zai,ztC,if_pos (Or.inl h:_\/(-(2 ^ 64)<b/\b<2 ^ 64)),zb7]
theorem zuY{a b:Int}(h: -(2 ^ 64)<b/\b<2 ^ 64):zai .mul [.int a,.int b]=some (.val (.int (a*b))):=by simp only[zai,ztC,if_pos (Or.inr h:(-(2 ^ 64)<a/\a<2 ^ 64)\/_),zb7]
theorem zn4{a b:Int}(h:0<b/\b<1073741824):zai .fdiv [.int a,.int b]=some (.val (.int (a/b))):=by simp only[zai,zpe,if_pos h,zb7]
theorem zfi{a b:Int}(h:0<b):zai .mod [.int a,.int b]=some (.val (.int (a%b))):=by simp only[zai,zwk,if_pos h,zb7]
@[simp] theorem zAU{a:Int}:zai .neg [.int a]=some (.val (.int (-a))):=rfl
theorem zuZ{a b:D}(h:zby 8 a=true)(h':zby 8 b=true):zai .eq [a,b]=some (.val (.bl (eqD a b))):=by simp[zai,pEq,h,h']
theorem zAd{a b:D}(h:zby 8 a=true)(h':zby 8 b=true):zai .ne [a,b]=some (.val (.bl (!eqD a b))):=by simp[zai,pNe,h,h']
@[simp] theorem zAV{a b:Int}:zai .eq [.int a,.int b]=some (.val (.bl (a==b))):=by rw[zuZ rfl rfl,eqD]
@[simp] theorem zAW{a b:Int}:zai .ne [.int a,.int b]=some (.val (.bl (a != b))):=by rw[zAd rfl rfl,eqD];rfl
@[simp] theorem zBe{a b:Int}:zai .lt [.int a,.int b]=some (.val (.bl (decide (a<b)))):=rfl
@[simp] theorem zBf{a b:Int}:zai .le [.int a,.int b]=some (.val (.bl (decide (a<=b)))):=rfl
@[simp] theorem zBg{a b:Int}:zai .gt [.int a,.int b]=some (.val (.bl (decide (b<a)))):=rfl
@[simp] theorem zBh{a b:Int}:zai .ge [.int a,.int b]=some (.val (.bl (decide (b<=a)))):=rfl
@[simp] theorem zAX{d:D}:zai .isN [d]=some (.val (.bl (ziD d))):=rfl
@[simp] theorem zAe{d:D}:zai .notN [d]=some (.val (.bl (!ziD d))):=rfl
@[simp] theorem zAf{l:List D}:zai .len [.tup l]=some (.val (.int l.length)):=rfl
@[simp] theorem zAg{l:List D}:zai .len [.lst l]=some (.val (.int l.length)):=rfl
@[simp] theorem zAY{i:Int}:zai .abs [.int i]=some (.val (.int (if i<0 then -i else i))):=rfl
@[simp] theorem zqT{i j:Int}:zai .min2 [.int i,.int j]=some (.val (.int (if j<i then j else i))):=rfl
@[simp] theorem zqU{i j:Int}:zai .max2 [.int i,.int j]=some (.val (.int (if j>i then j else i))):=rfl
theorem zqV{n:Int}{r:List Int}:zai .maxL [.lst ((n::r).map D.int)]=some (.val (.int (r.foldl max n))):=by
 have: ∀l:List Int,ints? (l.map D.int)=some l:=fun l=>by induction l with
  |nil=>rfl
  |cons x l ih=>simp[ints?,ih]
 simp only[zai,zpf,this,Option.bind_some,zb7]
@[simp] theorem zxe{b:Bool}:zai .intOf [.bl b]=some (.val (.int (if b then 1 else 0))):=rfl
@[simp] theorem zxf{b:Int}:zai .intOf [.int b]=some (.val (.int b)):=rfl
@[simp] theorem zu0{l:List D}:zai .toList [.tup l]=some (.obj true (.lst l)):=rfl
@[simp] theorem zu1{l:List D}:zai .toList [.lst l]=some (.obj true (.lst l)):=rfl
@[simp] theorem zxg{l:List D}:zai .toTup [.tup l]=some (.val (.tup l)):=rfl
@[simp] theorem zxh{l:List D}:zai .toTup [.lst l]=some (.val (.tup l)):=rfl
@[simp] theorem zAh{t:Ty}{d:D}:zai (.inst t) [d]=some (.val (.bl (zfh t d))):=rfl
theorem zu2{l:List D}{i:Int}:zai .idx [.tup l,.int i]=(atI l i).map .val:=rfl
theorem zn5{l:List D}{i:Int}:zai .idx [.lst l,.int i]=(atI l i).map .val:=rfl
theorem atI_nat{α:Type}{l:List α}{k:Nat}(h:k<l.length):atI l (k:Int)=some l[k]:=by
 unfold atI ixN
 rw[if_pos (by omega),if_pos (by omega)]
 simp[h]
@[simp] theorem zxi{a b:D}:zai .idx [.tup [a,b],.int 0]=some (.val a):=rfl
@[simp] theorem zxj{a b:D}:zai .idx [.tup [a,b],.int 1]=some (.val b):=rfl
@[simp] theorem zxk{b:Bool}:zfh .bool (.bl b)=true:=rfl
@[simp] theorem zxl{b:Int}:zfh .bool (.int b)=false:=rfl
@[simp] theorem zxm{b:Int}:zfh .int (.int b)=true:=rfl
@[simp] theorem zxn{l:List D}:zfh .tuple (.tup l)=true:=rfl
@[simp] theorem zxo{l:List D}:zfh .list (.lst l)=true:=rfl
@[simp] theorem zu3:ziD .non=true:=rfl
@[simp] theorem zu4{i:Int}:ziD (.int i)=false:=rfl
@[simp] theorem zu5{l:List D}:ziD (.tup l)=false:=rfl
@[simp] theorem zu6{l:List D}:ziD (.lst l)=false:=rfl
theorem zi9{α:Type}{f:α->D}{test:D->Option Bool}{elt:D->Option SV}{t:α->Bool}{e:α->D}: ∀{xs:List α},(∀x∈xs,test (f x)=some (t x))->(∀x∈xs,t x=true->(elt (f x)).bind toD=some (e x))->
  zdG test elt (xs.map f)=some ((xs.filter t).map e)
 |[],_,_=>rfl
 |d::r,h1,h2=>by
  have ih:=zi9 (xs:=r) (fun x hx=>h1 x (List.mem_cons_of_mem _ hx)) (fun x hx=>h2 x (List.mem_cons_of_mem _ hx))
  rw[List.map_cons,zdG,h1 d List.mem_cons_self]
  simp only[Option.bind_some]
  cases ht:t d with
  |false=>simp[ih,ht]
  |true=>
   have h3:=h2 d List.mem_cons_self ht
   rw[jo1] at h3
   obtain⟨x,e1,e2⟩:=h3
   simp[ih,ht,e1,e2]
theorem zbt{fn:Nat->List D->Option SV}{ρ:Env}{g:Bool}{src:Es}{cond elt:E}{rs:List SV}{α:Type}{f:α->D}{xs:List α}(t:α->Bool)(e:α->D)(h:zcx fn src ρ=some rs)(hi:zaI g rs=some (xs.map f))(hl:xs.length<=line)
  (ht: ∀x∈xs,evT fn cond (some (.val (f x))::ρ)=some (t x)) (he: ∀x∈xs,t x=true->(evE fn elt (some (.val (f x))::ρ)).bind toD=some (e x)):
  evE fn (.comp g src cond elt) ρ=some (.obj true (.lst ((xs.filter t).map e))):=by
 rw[zpN,h]
 simp only[Option.bind_some,hi,List.length_map,if_pos hl]
 rw[zi9 ht he];rfl
theorem zeH{fn:Nat->List D->Option SV}{ρ:Env}{g:Bool}{src:Es}{elt:E}{rs:List SV}{α:Type}{f:α->D}{xs:List α}(e:α->D)(h:zcx fn src ρ=some rs)(hi:zaI g rs=some (xs.map f))(hl:xs.length<=line)
  (he: ∀x∈xs,(evE fn elt (some (.val (f x))::ρ)).bind toD=some (e x)):
  evE fn (.comp g src (.bl true) elt) ρ=some (.obj true (.lst (xs.map e))):=by
 have:=zbt (fun _=>true) e h hi hl (fun _ _=>zuu) (fun x hx _=>he x hx)
 have e2:xs.filter (fun _=>true)=xs:=List.filter_eq_self.mpr fun _ _=>rfl
 rwa [e2] at this
theorem zli{i:Nat}{body:Env->Option (Fl×Env)}(I:List D->Env->Prop){ds:List D}: ∀{post pre:List D} {ρ:Env},ds=pre++post->I pre ρ->
  (∀pre d post ρ,ds=pre++d::post->I pre ρ->∃fl ρ',body (ρ.set i (some (.val d)))=some (fl,ρ')/\(fl= .nx\/fl= .ct)/\I (pre++[d]) ρ')->
  ∃ρ',zeA i body post ρ=some (.nx,ρ')/\I ds ρ'
 |[],pre,ρ,e,h,_=>⟨ρ,rfl,by rw[e];simpa using h⟩
 |d::post,pre,ρ,e,h,st=>by
  obtain⟨fl,ρ1,e1,e2,h1⟩:=st pre d post ρ e h
  obtain⟨ρ',e3,h3⟩:=zli I (ds:=ds) (post:=post) (pre:=pre++[d]) (ρ:=ρ1) (by simp[e]) h1 st
  refine⟨ρ',?_,h3⟩
  rw[zeA,e1]
  simp only[Option.bind_some]
  rcases e2 with rfl|rfl<;>exact e3
theorem zpS{i:Nat}{body:Env->Option (Fl×Env)}(I:Nat->Env->Prop){ds:List D}{ρ:Env}(h0:I 0 ρ)
  (st: ∀k ρ (hk:k<ds.length),I k ρ->∃fl ρ',body (ρ.set i (some (.val ds[k])))=some (fl,ρ')/\(fl= .nx\/fl= .ct)/\I (k+1) ρ'):
  ∃ρ',zeA i body ds ρ=some (.nx,ρ')/\I ds.length ρ':=by
 refine zli (fun pre ρ=>I pre.length ρ) (ds:=ds) (post:=ds) (pre:=[]) rfl h0 fun pre d post ρ e h=>?_
 subst e
 have hk:pre.length<(pre++d::post).length:=by simp
 obtain⟨fl,ρ',h1,h2,h3⟩:=st pre.length ρ hk h
 refine⟨fl,ρ',?_,h2,by simpa using h3⟩
 rw[<-h1];simp
theorem zpT{i:Nat}{body:Env->Option (Fl×Env)}{α:Type}{f:α->D}{xs:List α}(I:Nat->Env->Prop){ρ:Env}(h0:I 0 ρ)
  (st: ∀k ρ (hk:k<xs.length),I k ρ->∃fl ρ',body (ρ.set i (some (.val (f xs[k]))))=some (fl,ρ')/\(fl= .nx\/fl= .ct)/\I (k+1) ρ'):
  ∃ρ',zeA i body (xs.map f) ρ=some (.nx,ρ')/\I xs.length ρ':=by
 have:=zpS (i:=i) (body:=body) I (ds:=xs.map f) (ρ:=ρ) h0 fun k ρ hk h=>by
  obtain⟨fl,ρ',h1,h2⟩:=st k ρ (by simpa using hk) h
  exact⟨fl,ρ',by rw[List.getElem_map];exact h1,h2⟩
 simpa using this
theorem zlj{i:Nat}{body:Env->Option (Fl×Env)}(I:Nat->Env->Prop){a:Int}{m:Nat}{ρ:Env}(h0:I 0 ρ)
  (st: ∀k ρ,k<m->I k ρ->∃fl ρ',body (ρ.set i (some (.val (.int (a+(k:Int))))))=some (fl,ρ')/\(fl= .nx\/fl= .ct)/\I (k+1) ρ'):
  ∃ρ',zeA i body ((List.range m).map fun (k:Nat)=>D.int (a+(k:Int))) ρ=some (.nx,ρ')/\I m ρ':=by
 have:=zpT (i:=i) (body:=body) (f:=fun (k:Nat)=>D.int (a+(k:Int))) (xs:=List.range m) I (ρ:=ρ) h0 fun k ρ hk h=>by
  obtain⟨fl,ρ',h1,h2⟩:=st k ρ (by simpa using hk) h
  exact⟨fl,ρ',by rw[List.getElem_range];exact h1,h2⟩
 simpa using this
theorem zg3{test:Env->Option Bool}{body:Env->Option (Fl×Env)}(I:Nat->Env->Prop)(J:Env->Prop): ∀{m n:Nat} {ρ:Env},m<n->I m ρ->
  (∀m ρ,I m ρ->(test ρ=some false/\J ρ)\/(test ρ=some true/\∃fl ρ' m',body ρ=some (fl,ρ')/\(fl= .nx\/fl= .ct)/\m'<m/\I m' ρ'))->
  ∃ρ',zcM test body n ρ=some (.nx,ρ')/\J ρ'
 |m,0,ρ,hn,_,_=>by omega
 |m,n+1,ρ,hn,h,st=>by
  rcases st m ρ h with ⟨e,j⟩|⟨e,fl,ρ1,m',e1,e2,hm,h1⟩
  ·exact⟨ρ,by rw[zcM,e];rfl,j⟩
  ·obtain⟨ρ',e3,j⟩:=zg3 I J (m:=m') (n:=n) (ρ:=ρ1) (by omega) h1 st
   refine⟨ρ',?_,j⟩
   rw[zcM,e]
   simp only[Option.bind_some,if_true,e1]
   rcases e2 with rfl|rfl<;>exact e3
section
variable {fa:Nat->List D->Option Ans} {fuel:Nat} {ρ:Env}
noncomputable def zpU(k:Env->Option (FlX×Env)):FlX×Env->Option (FlX×Env)
 |(.fl .nx,ρ)=>k ρ
 |x=>some x
@[simp] theorem zxp{k:Env->Option (FlX×Env)}:zpU k (.fl .nx,ρ)=k ρ:=rfl
@[simp] theorem zxq{k:Env->Option (FlX×Env)}{r:SV}:zpU k (.fl (.rt r),ρ)=some (.fl (.rt r),ρ):=rfl
@[simp] theorem zxr{k:Env->Option (FlX×Env)}{c:Nat}:zpU k (.ex c,ρ)=some (.ex c,ρ):=rfl
@[simp] theorem zxs:ziG fa fuel .nil ρ=some (.fl .nx,ρ):=by rw[ziG]
@[simp] theorem zu7{t:T}{ts:Ts}:ziG fa fuel (.cons t ts) ρ=(exT fa fuel t ρ).bind (zpU (ziG fa fuel ts)):=by
 rw[ziG]
 congr 1
 funext x
 rcases x with ⟨⟨_|_|_|_⟩|_,_⟩<;>rfl
@[simp] theorem zAi{s:S}:exT fa fuel (.pl s) ρ=(exS fa fuel s ρ).map fun x=>(.fl x.1,x.2):=by rw[exT]
@[simp] theorem zu8{c:Nat}:exT fa fuel (.raise c) ρ=some (.ex c,ρ):=by rw[exT]
@[simp] theorem zu9:exT fa fuel .stuck ρ=none:=by rw[exT]
@[simp] theorem zza{c:E}{a b:Ts}:exT fa fuel (.ifs c a b) ρ=(evT (prj fa) c ρ).bind fun k=>if k then ziG fa fuel a ρ else ziG fa fuel b ρ:=by rw[exT]
noncomputable def zn6(ρ:Env):Ans->Option (FlX×Env)
 | .ok _ []=>some (.fl .nx,ρ)
 | .ex c=>some (.ex c,ρ)
 |_=>none
@[simp] theorem zva{r:SV}:zn6 ρ (.ok r [])=some (.fl .nx,ρ):=rfl
@[simp] theorem zvb{c:Nat}:zn6 ρ (.ex c)=some (.ex c,ρ):=rfl
@[simp] theorem zvc{i:Nat}{es:Es}:exT fa fuel (.callX i es) ρ=(zoW fa i es ρ).bind (zn6 ρ):=by rw[exT];rfl
noncomputable def zsf(ρ:Env):Ans->Option (FlX×Env)
 | .ok r []=>if r.lent then none else some (.fl (.rt r),ρ)
 | .ex c=>some (.ex c,ρ)
 |_=>none
@[simp] theorem zxt{r:SV}:zsf ρ (.ok r [])=if r.lent then none else some (.fl (.rt r),ρ):=rfl
@[simp] theorem zxu{c:Nat}:zsf ρ (.ex c)=some (.ex c,ρ):=rfl
@[simp] theorem zxv{i:Nat}{es:Es}:exT fa fuel (.retX i es) ρ=(zoW fa i es ρ).bind (zsf ρ):=by rw[exT];rfl
noncomputable def zvd(k:Nat)(ρ:Env):Ans->Option (FlX×Env)
 | .ok r []=>if r.lent|| !free ρ k then none else some (.fl .nx,ρ.set k (some r))
 | .ex c=>some (.ex c,ρ)
 |_=>none
@[simp] theorem zxw{k c:Nat}:zvd k ρ (.ex c)=some (.ex c,ρ):=rfl
@[simp] theorem zxx{k i:Nat}{es:Es}:exT fa fuel (.asgX k i es) ρ=(zoW fa i es ρ).bind (zvd k ρ):=by rw[exT];rfl
noncomputable def zAj(neg:Bool)(a b:Option (FlX×Env))(ρ:Env):Ans->Option (FlX×Env)
 | .ok (.val (.bl k)) []=>if k != neg then a else b
 | .ex c=>some (.ex c,ρ)
 |_=>none
@[simp] theorem zzb{neg:Bool}{a b:Option (FlX×Env)}{c:Nat}:zAj neg a b ρ (.ex c)=some (.ex c,ρ):=rfl
@[simp] theorem zzc{neg:Bool}{i:Nat}{es:Es}{a b:Ts}:exT fa fuel (.ifX neg i es a b) ρ=(zoW fa i es ρ).bind (zAj neg (ziG fa fuel a ρ) (ziG fa fuel b ρ) ρ):=by rw[exT];rfl
noncomputable def zsg(cs:List Nat)(h:Hd):FlX×Env->Option (FlX×Env)
 |(.ex c,ρ)=>if cs.contains c then hdX c ρ h else none
 |x=>some x
@[simp] theorem zxy{cs:List Nat}{h:Hd}{f:Fl}:zsg cs h (.fl f,ρ)=some (.fl f,ρ):=rfl
@[simp] theorem zxz{cs:List Nat}{h:Hd}{c:Nat}:zsg cs h (.ex c,ρ)=if cs.contains c then hdX c ρ h else none:=rfl
@[simp] theorem zxA{b:Ts}{k:Nat}{cs:List Nat}{h:Hd}:exT fa fuel (.tryX b k cs h) ρ=(ziG fa fuel b ρ).bind (zsg cs h):=by
 rw[exT]
 congr 1
 funext x
 rcases x with ⟨_|_,_⟩<;>rfl
@[simp] theorem zzd{i:Nat}{es:Es}:zoW fa i es ρ=(zcx (prj fa) es ρ).bind fun rs=>if rs.any SV.lent then none else fa i (rs.map zbH):=rfl
@[simp] theorem zze{r:SV}:zwp (some (.fl (.rt r),ρ))=some (.ok r []):=rfl
@[simp] theorem zzf:zwp (some (.fl .nx,ρ))=some (.ok (.val .non) []):=rfl
@[simp] theorem zzg{c:Nat}:zwp (some (.ex c,ρ))=some (.ex c):=rfl
end
end L2.LW
namespace LK
open L2.LW
noncomputable def ir0:Ss:=(.cons (.ifs (.or (.prim (.inst .bool) (.cons (.var 0) .nil)) (.not (.prim (.inst .int) (.cons (.var 0) .nil)))) (.cons (.ret (.bl false))
  .nil) .nil)
  (.cons (.ret (.chain .le .le (.var 1) (.var 0) (.var 2)))
  .nil))
noncomputable def ir1:Ss:=(.cons (.ret (.and (.prim (.inst .tuple) (.cons (.var 0) .nil)) (.prim .eq (.cons (.prim .len (.cons (.var 0) .nil)) (.cons (.int 2) .nil)))))
  .nil)
noncomputable def ir2:Ss:=(.cons (.ret (.and (.call 1 (.cons (.var 0) .nil)) (.and (.call 0 (.cons (.prim .idx (.cons (.var 0) (.cons (.int 0) .nil))) (.cons (.int 0) (.cons (.int 7) .nil)))) (.call 0 (.cons (.prim .idx (.cons (.var 0) (.cons (.int 1) .nil))) (.cons (.int 0) (.cons (.int 7) .nil)))))))
  .nil)
noncomputable def ir3:Ss:=(.cons (.ret (.and (.call 1 (.cons (.var 0) .nil)) (.and (.call 0 (.cons (.prim .idx (.cons (.var 0) (.cons (.int 1) .nil))) (.cons (.int 1) (.cons (.int 4) .nil)))) (.call 0 (.cons (.prim .idx (.cons (.var 0) (.cons (.int 0) .nil))) (.cons (.int 0) (.cons (.prim .idx (.cons (.var 0) (.cons (.int 1) .nil))) .nil)))))))
  .nil)
noncomputable def ir4:Ss:=(.cons (.ret (.prim .all (.cons (.comp true (.cons (.int 1) (.cons (.prim .len (.cons (.var 0) .nil)) .nil)) (.bl true) (.prim .lt (.cons (.prim .idx (.cons (.var 1) (.cons (.prim .sub (.cons (.var 0) (.cons (.int 1) .nil))) .nil))) (.cons (.prim .idx (.cons (.var 1) (.cons (.var 0) .nil))) .nil)))) .nil)))
  .nil)
noncomputable def ir5:Ss:=(.cons (.ifs (.or (.not (.prim (.inst .tuple) (.cons (.var 0) .nil))) (.not (.chain .le .le (.int 1) (.prim .len (.cons (.var 0) .nil)) (.int 24)))) (.cons (.ret (.bl false))
  .nil) .nil)
  (.cons (.ret (.and (.prim .all (.cons (.comp false (.cons (.var 0) .nil) (.bl true) (.call 2 (.cons (.var 0) .nil))) .nil)) (.call 4 (.cons (.var 0) .nil))))
  .nil))
noncomputable def ir6:Ss:=(.cons (.ifs (.not (.call 5 (.cons (.var 0) .nil))) (.cons .stop
  .nil) .nil)
  (.cons (.retV 0)
  .nil))
noncomputable def ir7:Ss:=(.cons (.ifs (.not (.call 3 (.cons (.var 0) .nil))) (.cons .stop
  .nil) .nil)
  (.cons (.retV 0)
  .nil))
noncomputable def ir9:Ss:=(.cons (.ret (.tup (.cons (.prim .min2 (.cons (.prim .abs (.cons (.var 0) .nil)) (.cons (.prim .abs (.cons (.var 1) .nil)) .nil))) (.cons (.prim .max2 (.cons (.prim .abs (.cons (.var 0) .nil)) (.cons (.prim .abs (.cons (.var 1) .nil)) .nil))) .nil))))
  .nil)
noncomputable def zve:Ss:=(.cons (.ret (.prim .eq (.cons (.call 9 (.cons (.prim .sub (.cons (.prim .idx (.cons (.var 2) (.cons (.int 0) .nil))) (.cons (.prim .idx (.cons (.var 1) (.cons (.int 0) .nil))) .nil))) (.cons (.prim .sub (.cons (.prim .idx (.cons (.var 2) (.cons (.int 1) .nil))) (.cons (.prim .idx (.cons (.var 1) (.cons (.int 1) .nil))) .nil))) .nil))) (.cons (.var 0) .nil))))
  .nil)
noncomputable def zvf:Ss:=(.cons (.ret (.comp false (.cons (.var 0) .nil) (.call 10 (.cons (.var 2) (.cons (.var 3) (.cons (.var 0) .nil)))) (.var 0)))
  .nil)
noncomputable def zvg:Ss:=(.cons (.ifs (.prim .lt (.cons (.var 1) (.cons (.prim .len (.cons (.var 0) .nil)) .nil))) (.cons (.ret (.prim .idx (.cons (.var 0) (.cons (.var 1) .nil))))
  .nil) .nil)
  (.cons (.ret (.int 0))
  .nil))
noncomputable def zvh:Ss:=(.cons (.ret (.prim .mod (.cons (.prim .mod (.cons (.prim .mul (.cons (.var 0) (.cons (.int 48271) .nil))) (.cons (.var 1) .nil))) (.cons (.var 2) .nil))))
  .nil)
noncomputable def zlk:Ss:=(.cons (.asg 12 (.prim .add (.cons (.prim .add (.cons (.call 13 (.cons (.var 0) (.cons (.prim .add (.cons (.prim .add (.cons (.var 1) (.cons (.int 2) .nil))) (.cons (.prim .mod (.cons (.prim .add (.cons (.var 10) (.cons (.prim .mul (.cons (.int 2) (.cons (.var 11) .nil))) .nil))) (.cons (.int 7) .nil))) .nil))) .nil))) (.cons (.prim .mul (.cons (.prim .mul (.cons (.int 31) (.cons (.var 10) .nil))) (.cons (.var 10) .nil))) .nil))) (.cons (.prim .mul (.cons (.prim .mul (.cons (.int 57) (.cons (.var 11) .nil))) (.cons (.var 11) .nil))) .nil))))
  (.cons (.ifs (.or (.prim .eq (.cons (.var 8) (.cons (.int 0) .nil))) (.prim .gt (.cons (.call 14 (.cons (.var 12) (.cons (.int 9931) (.cons (.prim .idx (.cons (.lst (.cons (.int 2) (.cons (.int 4) (.cons (.int 7) .nil)))) (.cons (.prim .sub (.cons (.var 8) (.cons (.int 1) .nil))) .nil))) .nil)))) (.cons (.int 0) .nil)))) (.cons (.app 9 (.tup (.cons (.prim .add (.cons (.var 6) (.cons (.var 10) .nil))) (.cons (.prim .add (.cons (.var 7) (.cons (.var 11) .nil))) .nil))))
  .nil) .nil)
  .nil))
noncomputable def zja:Ss:=(.cons (.for_ 11 true (.cons (.var 5) .nil) zlk)
  .nil)
noncomputable def zvi:Ss:=(.cons (.asg 3 (.call 13 (.cons (.var 0) (.cons (.var 1) .nil))))
  (.cons (.asg 4 (.prim .add (.cons (.int 1) (.cons (.call 14 (.cons (.var 3) (.cons (.int 9973) (.cons (.int 5) .nil)))) .nil))))
  (.cons (.asg 5 (.prim .add (.cons (.int 1) (.cons (.call 14 (.cons (.var 3) (.cons (.int 9967) (.cons (.int 6) .nil)))) .nil))))
  (.cons (.asg 6 (.call 14 (.cons (.call 13 (.cons (.var 0) (.cons (.prim .add (.cons (.var 1) (.cons (.int 1) .nil))) .nil))) (.cons (.int 9949) (.cons (.prim .sub (.cons (.int 9) (.cons (.var 4) .nil))) .nil)))))
  (.cons (.asg 7 (.call 14 (.cons (.call 13 (.cons (.var 0) (.cons (.prim .add (.cons (.var 1) (.cons (.int 1) .nil))) .nil))) (.cons (.int 9941) (.cons (.prim .sub (.cons (.int 9) (.cons (.var 5) .nil))) .nil)))))
  (.cons (.asg 8 (.call 14 (.cons (.prim .add (.cons (.var 3) (.cons (.int 3) .nil))) (.cons (.int 9907) (.cons (.int 4) .nil)))))
  (.cons (.asg 9 (.lst .nil))
  (.cons (.for_ 10 true (.cons (.var 4) .nil) zja)
  (.cons (.ifs (.not (.var 9)) (.cons (.asg 9 (.lst (.cons (.tup (.cons (.var 6) (.cons (.var 7) .nil))) .nil)))
  .nil) .nil)
  (.cons (.ret (.prim .toTup (.cons (.prim .cutTo (.cons (.var 9) (.cons (.var 2) .nil))) .nil)))
  .nil))))))))))
noncomputable def zvj:Ss:=(.cons (.asg 1 (.lst (.cons (.tup (.cons (.int 1) (.cons (.int 2) .nil))) (.cons (.tup (.cons (.int 0) (.cons (.int 1) .nil))) (.cons (.tup (.cons (.int 1) (.cons (.int 1) .nil))) (.cons (.tup (.cons (.int 1) (.cons (.int 2) .nil))) (.cons (.tup (.cons (.int 0) (.cons (.int 2) .nil))) (.cons (.tup (.cons (.int 1) (.cons (.int 3) .nil))) (.cons (.tup (.cons (.int 2) (.cons (.int 3) .nil))) (.cons (.tup (.cons (.int 0) (.cons (.int 1) .nil))) (.cons (.tup (.cons (.int 1) (.cons (.int 2) .nil))) (.cons (.tup (.cons (.int 2) (.cons (.int 2) .nil))) (.cons (.tup (.cons (.int 0) (.cons (.int 3) .nil))) (.cons (.tup (.cons (.int 1) (.cons (.int 4) .nil))) (.cons (.tup (.cons (.int 2) (.cons (.int 4) .nil))) .nil)))))))))))))))
  (.cons (.ret (.prim .idx (.cons (.prim .add (.cons (.var 1) (.cons (.lst (.cons (.tup (.cons (.int 3) (.cons (.int 3) .nil))) (.cons (.tup (.cons (.int 3) (.cons (.int 4) .nil))) (.cons (.tup (.cons (.int 0) (.cons (.int 4) .nil))) (.cons (.tup (.cons (.int 4) (.cons (.int 4) .nil))) (.cons (.tup (.cons (.int 1) (.cons (.int 2) .nil))) (.cons (.tup (.cons (.int 1) (.cons (.int 1) .nil))) .nil))))))) .nil))) (.cons (.prim .mod (.cons (.var 0) (.cons (.int 19) .nil))) .nil))))
  .nil))
noncomputable def zvk:Ss:=(.cons (.ret (.prim .eq (.cons (.prim .sorted (.cons (.lst (.cons (.prim .abs (.cons (.prim .sub (.cons (.prim .idx (.cons (.var 1) (.cons (.int 0) .nil))) (.cons (.prim .idx (.cons (.var 2) (.cons (.int 0) .nil))) .nil))) .nil)) (.cons (.prim .abs (.cons (.prim .sub (.cons (.prim .idx (.cons (.var 1) (.cons (.int 1) .nil))) (.cons (.prim .idx (.cons (.var 2) (.cons (.int 1) .nil))) .nil))) .nil)) .nil))) .nil)) (.cons (.prim .toList (.cons (.var 0) .nil)) .nil))))
  .nil)
noncomputable def zvl:Ss:=(.cons (.ret (.comp false (.cons (.var 0) .nil) (.call 17 (.cons (.var 2) (.cons (.var 3) (.cons (.var 0) .nil)))) (.var 0)))
  .nil)
noncomputable def zvm:Ss:=(.cons (.ret (.prim .maxL (.cons (.comp true (.cons (.int 1) (.cons (.prim .add (.cons (.prim .idx (.cons (.var 0) (.cons (.int 1) .nil))) (.cons (.int 1) .nil))) .nil)) (.and (.prim .eq (.cons (.prim .mod (.cons (.prim .idx (.cons (.var 1) (.cons (.int 0) .nil))) (.cons (.var 0) .nil))) (.cons (.int 0) .nil))) (.prim .eq (.cons (.prim .mod (.cons (.prim .idx (.cons (.var 1) (.cons (.int 1) .nil))) (.cons (.var 0) .nil))) (.cons (.int 0) .nil)))) (.var 0)) .nil)))
  .nil)
noncomputable def zvn:Ss:=(.cons (.asg 1 (.call 21 (.cons (.var 0) .nil)))
  (.cons (.ret (.prim .eq (.cons (.prim .mod (.cons (.prim .add (.cons (.prim .fdiv (.cons (.prim .idx (.cons (.var 0) (.cons (.int 0) .nil))) (.cons (.var 1) .nil))) (.cons (.prim .fdiv (.cons (.prim .idx (.cons (.var 0) (.cons (.int 1) .nil))) (.cons (.var 1) .nil))) .nil))) (.cons (.int 2) .nil))) (.cons (.int 1) .nil))))
  .nil))
noncomputable def zvo:Ss:=(.cons (.asg 2 (.call 21 (.cons (.var 0) .nil)))
  (.cons (.asg 3 (.prim .fdiv (.cons (.prim .idx (.cons (.var 1) (.cons (.int 0) .nil))) (.cons (.var 2) .nil))))
  (.cons (.asg 4 (.prim .fdiv (.cons (.prim .idx (.cons (.var 1) (.cons (.int 1) .nil))) (.cons (.var 2) .nil))))
  (.cons (.ifs (.call 22 (.cons (.var 0) .nil)) (.cons (.ret (.prim .mod (.cons (.prim .add (.cons (.var 3) (.cons (.var 4) .nil))) (.cons (.int 2) .nil))))
  .nil) .nil)
  (.cons (.ret (.prim .mod (.cons (.var 3) (.cons (.int 2) .nil))))
  .nil)))))
noncomputable def zvp:Ss:=(.cons (.ret (.comp false (.cons (.var 0) .nil) (.prim .eq (.cons (.call 23 (.cons (.var 2) (.cons (.var 0) .nil))) (.cons (.var 3) .nil))) (.var 0)))
  .nil)
noncomputable def zvq:Ss:=(.cons (.asg 2 (.prim .maxL (.cons (.comp true (.cons (.int 1) (.cons (.int 5) .nil)) (.and (.prim .eq (.cons (.prim .mod (.cons (.prim .idx (.cons (.var 1) (.cons (.int 0) .nil))) (.cons (.var 0) .nil))) (.cons (.int 0) .nil))) (.prim .eq (.cons (.prim .mod (.cons (.prim .idx (.cons (.var 1) (.cons (.int 1) .nil))) (.cons (.var 0) .nil))) (.cons (.int 0) .nil)))) (.var 0)) .nil)))
  (.cons (.asg 3 (.prim .fdiv (.cons (.prim .idx (.cons (.var 1) (.cons (.int 0) .nil))) (.cons (.var 2) .nil))))
  (.cons (.asg 4 (.prim .fdiv (.cons (.prim .idx (.cons (.var 1) (.cons (.int 1) .nil))) (.cons (.var 2) .nil))))
  (.cons (.ifs (.prim .eq (.cons (.prim .mod (.cons (.prim .add (.cons (.prim .fdiv (.cons (.prim .idx (.cons (.var 0) (.cons (.int 0) .nil))) (.cons (.var 2) .nil))) (.cons (.prim .fdiv (.cons (.prim .idx (.cons (.var 0) (.cons (.int 1) .nil))) (.cons (.var 2) .nil))) .nil))) (.cons (.int 2) .nil))) (.cons (.int 1) .nil))) (.cons (.ret (.prim .mod (.cons (.prim .add (.cons (.var 3) (.cons (.var 4) .nil))) (.cons (.int 2) .nil))))
  .nil) .nil)
  (.cons (.ret (.prim .mod (.cons (.var 3) (.cons (.int 2) .nil))))
  .nil)))))
noncomputable def zeW:Ss:=(.cons (.ifs (.prim .nin (.cons (.var 5) (.cons (.var 4) .nil))) (.cons (.dset 4 (.var 5) (.bl true))
  (.cons (.ifO (.prim .nin (.cons (.var 5) (.cons (.var 2) .nil))) (.call 37 (.e (.var 0) (.e (.var 1) (.s 2 (.e (.prim .idx (.cons (.var 2) (.cons (.var 5) .nil))) (.s 4 .nil)))))) (.cons (.dset 2 (.var 3) (.var 5))
  (.cons (.dset 2 (.var 5) (.var 3))
  (.cons (.ret (.bl true))
  .nil))) .nil)
  .nil)) .nil)
  .nil)
noncomputable def zs1:Ss:=(.cons (.for_ 5 false (.cons (.call 11 (.cons (.var 0) (.cons (.var 1) (.cons (.var 3) .nil)))) .nil) zeW)
  (.cons (.ret (.bl false))
  .nil))
noncomputable def zll:Ss:=(.cons (.exprM (.call 37 (.e (.var 0) (.e (.var 1) (.s 2 (.e (.var 3) (.n true .nil)))))))
  .nil)
noncomputable def zvr:Ss:=(.cons (.asg 2 (.dnew true))
  (.cons (.for_ 3 false (.cons (.call 24 (.cons (.var 0) (.cons (.var 1) (.cons (.int 0) .nil)))) .nil) zll)
  (.cons (.retV 2)
  .nil)))
noncomputable def zvs:Ss:=(.cons (.ret (.comp false (.cons (.var 0) .nil) (.and (.prim .inn (.cons (.var 0) (.cons (.var 2) .nil))) (.prim .lt (.cons (.var 0) (.cons (.prim .idx (.cons (.var 2) (.cons (.var 0) .nil))) .nil)))) (.tup (.cons (.var 0) (.cons (.prim .idx (.cons (.var 2) (.cons (.var 0) .nil))) .nil)))))
  .nil)
noncomputable def zjb:Ss:=(.cons (.ifs (.prim .nin (.cons (.var 9) (.cons (.var 5) .nil))) (.cons (.app 5 (.var 9))
  (.cons (.app 7 (.prim .idx (.cons (.var 2) (.cons (.var 9) .nil))))
  .nil)) .nil)
  .nil)
noncomputable def zlm:Ss:=(.cons (.for_ 9 false (.cons (.call 11 (.cons (.var 0) (.cons (.var 1) (.cons (.var 8) .nil)))) .nil) zjb)
  .nil)
noncomputable def zln:Ss:=(.cons (.asg 7 (.lst .nil))
  (.cons (.forV 8 6 zlm)
  (.cons (.asg 4 (.prim .add (.cons (.var 4) (.cons (.var 7) .nil))))
  (.cons (.mov 6 7)
  .nil))))
noncomputable def zvt:Ss:=(.cons (.asg 4 (.comp false (.cons (.call 24 (.cons (.var 0) (.cons (.var 1) (.cons (.var 3) .nil)))) .nil) (.prim .nin (.cons (.var 0) (.cons (.var 3) .nil))) (.var 0)))
  (.cons (.asg 5 (.lst .nil))
  (.cons (.mov 6 4)
  (.cons (.while_ (.prim .gt (.cons (.prim .len (.cons (.var 6) .nil)) (.cons (.int 0) .nil))) zln)
  (.cons (.frz [4,5] (.ret (.tup (.cons (.var 4) (.cons (.var 5) .nil)))))
  .nil)))))
noncomputable def zvu:Ss:=(.cons (.expr (.call 6 (.cons (.var 0) .nil)))
  (.cons (.expr (.call 7 (.cons (.var 1) .nil)))
  (.cons (.ret (.call 39 (.cons (.var 0) (.cons (.call 38 (.cons (.var 0) (.cons (.var 1) .nil))) .nil))))
  .nil)))
noncomputable def zvv:Ss:=(.cons (.expr (.call 6 (.cons (.var 0) .nil)))
  (.cons (.expr (.call 7 (.cons (.var 1) .nil)))
  (.cons (.asg 2 (.call 38 (.cons (.var 0) (.cons (.var 1) .nil))))
  (.cons (.asg 3 (.comp false (.cons (.var 0) .nil) (.prim .nin (.cons (.var 0) (.cons (.var 3) .nil))) (.var 0)))
  (.cons (.ifs (.prim .eq (.cons (.prim .len (.cons (.var 3) .nil)) (.cons (.int 0) .nil))) (.cons (.ret (.tup (.cons (.str "paired") (.cons (.call 39 (.cons (.var 0) (.cons (.var 2) .nil))) .nil))))
  .nil) .nil)
  (.cons (.frz [2] (.asg 4 (.call 40 (.cons (.var 0) (.cons (.var 1) (.cons (.var 2) (.cons (.call 23 (.cons (.var 1) (.cons (.prim .idx (.cons (.var 3) (.cons (.int 0) .nil))) .nil))) .nil)))))))
  (.cons (.ret (.tup (.cons (.str "crowd") (.cons (.prim .sorted (.cons (.prim .idx (.cons (.var 4) (.cons (.int 0) .nil))) .nil)) .nil))))
  .nil)))))))
noncomputable def zlo:Ss:=(.cons (.asg 7 (.prim .add (.cons (.var 7) (.cons (.call 18 (.cons (.var 1) (.cons (.var 2) (.cons (.var 8) .nil)))) .nil))))
  .nil)
noncomputable def zlp:Ss:=(.cons (.ifs (.or (.not (.call 17 (.cons (.var 2) (.cons (.prim .idx (.cons (.var 6) (.cons (.int 0) .nil))) (.cons (.prim .idx (.cons (.var 6) (.cons (.int 1) .nil))) .nil))))) (.prim .ge (.cons (.prim .idx (.cons (.var 6) (.cons (.int 0) .nil))) (.cons (.prim .idx (.cons (.var 6) (.cons (.int 1) .nil))) .nil)))) (.cons (.ret (.bl false))
  .nil) .nil)
  (.cons (.asg 5 (.prim .add (.cons (.var 5) (.cons (.prim .toList (.cons (.var 6) .nil)) .nil))))
  .nil))
noncomputable def zs2:Ss:=(.cons (.asg 1 (.call 15 (.cons (.var 0) (.cons (.int 2) (.cons (.int 24) .nil)))))
  (.cons (.asg 2 (.call 16 (.cons (.call 13 (.cons (.var 0) (.cons (.int 0) .nil))) .nil)))
  (.cons (.asg 3 (.call 47 (.cons (.var 1) (.cons (.var 2) .nil))))
  (.cons (.ifs (.or (.not (.prim (.inst .tuple) (.cons (.var 3) .nil))) (.or (.prim .ne (.cons (.prim .len (.cons (.var 3) .nil)) (.cons (.int 2) .nil))) (.not (.prim (.inst .list) (.cons (.prim .idx (.cons (.var 3) (.cons (.int 1) .nil))) .nil))))) (.cons (.ret (.bl false))
  .nil) .nil)
  (.cons (.asg 4 (.prim .eq (.cons (.prim .mul (.cons (.int 2) (.cons (.prim .len (.cons (.call 43 (.cons (.var 1) (.cons (.var 2) .nil))) .nil)) .nil))) (.cons (.prim .len (.cons (.var 1) .nil)) .nil))))
  (.cons (.ifs (.prim .eqS (.cons (.prim .idx (.cons (.var 3) (.cons (.int 0) .nil))) (.cons (.str "paired") .nil))) (.cons (.asg 5 (.lst .nil))
  (.cons (.for_ 6 false (.cons (.prim .idx (.cons (.var 3) (.cons (.int 1) .nil))) .nil) zlp)
  (.cons (.ret (.and (.var 4) (.and (.prim .eq (.cons (.prim .sorted (.cons (.var 5) .nil)) (.cons (.prim .toList (.cons (.var 1) .nil)) .nil))) (.prim .eq (.cons (.prim .idx (.cons (.var 3) (.cons (.int 1) .nil))) (.cons (.prim .sortP (.cons (.prim .idx (.cons (.var 3) (.cons (.int 1) .nil))) .nil)) .nil))))))
  .nil))) .nil)
  (.cons (.ifs (.or (.prim .neS (.cons (.prim .idx (.cons (.var 3) (.cons (.int 0) .nil))) (.cons (.str "crowd") .nil))) (.var 4)) (.cons (.ret (.bl false))
  .nil) .nil)
  (.cons (.ifs (.prim .ne (.cons (.prim .idx (.cons (.var 3) (.cons (.int 1) .nil))) (.cons (.comp false (.cons (.var 1) .nil) (.prim .inn (.cons (.var 0) (.cons (.prim .idx (.cons (.var 4) (.cons (.int 1) .nil))) .nil))) (.var 0)) .nil))) (.cons (.ret (.bl false))
  .nil) .nil)
  (.cons (.asg 7 (.lst .nil))
  (.cons (.for_ 8 false (.cons (.prim .idx (.cons (.var 3) (.cons (.int 1) .nil))) .nil) zlo)
  (.cons (.ifs (.prim .ne (.cons (.prim .nset (.cons (.comp false (.cons (.prim .idx (.cons (.var 3) (.cons (.int 1) .nil))) .nil) (.bl true) (.call 28 (.cons (.var 3) (.cons (.var 0) .nil)))) .nil)) (.cons (.int 1) .nil))) (.cons (.ret (.bl false))
  .nil) .nil)
  (.cons (.ret (.prim .lt (.cons (.prim .nset (.cons (.var 7) .nil)) (.cons (.prim .len (.cons (.prim .idx (.cons (.var 3) (.cons (.int 1) .nil))) .nil)) .nil))))
  .nil))))))))))))
noncomputable def U:Nat->Option Fn
 |0=>some ⟨3,3,ir0,[],none⟩
 |1=>some ⟨1,1,ir1,[],none⟩
 |2=>some ⟨1,1,ir2,[],none⟩
 |3=>some ⟨1,1,ir3,[],none⟩
 |4=>some ⟨1,1,ir4,[],none⟩
 |5=>some ⟨1,1,ir5,[],none⟩
 |6=>some ⟨1,1,ir6,[],none⟩
 |7=>some ⟨1,1,ir7,[],none⟩
 |9=>some ⟨2,2,ir9,[],none⟩
 |10=>some ⟨3,3,zve,[],none⟩
 |11=>some ⟨3,3,zvf,[],none⟩
 |13=>some ⟨2,2,zvg,[],none⟩
 |14=>some ⟨3,3,zvh,[],none⟩
 |15=>some ⟨3,13,zvi,[],none⟩
 |16=>some ⟨1,2,zvj,[],none⟩
 |17=>some ⟨3,3,zvk,[],none⟩
 |18=>some ⟨3,3,zvl,[],none⟩
 |21=>some ⟨1,1,zvm,[],none⟩
 |22=>some ⟨1,2,zvn,[],none⟩
 |23=>some ⟨2,5,zvo,[],none⟩
 |24=>some ⟨3,3,zvp,[],none⟩
 |28=>some ⟨2,5,zvq,[],none⟩
 |37=>some ⟨5,6,zs1,[2,4],none⟩
 |38=>some ⟨2,4,zvr,[],none⟩
 |39=>some ⟨2,2,zvs,[],none⟩
 |40=>some ⟨4,10,zvt,[],none⟩
 |43=>some ⟨2,2,zvu,[],none⟩
 |47=>some ⟨2,5,zvv,[],none⟩
 |48=>some ⟨1,9,zs2,[],none⟩
 |_=>none
theorem U0:U 0=some ⟨3,3,ir0,[],none⟩:=rfl
theorem U1:U 1=some ⟨1,1,ir1,[],none⟩:=rfl
theorem U2:U 2=some ⟨1,1,ir2,[],none⟩:=rfl
theorem U3:U 3=some ⟨1,1,ir3,[],none⟩:=rfl
theorem U4:U 4=some ⟨1,1,ir4,[],none⟩:=rfl
theorem U5:U 5=some ⟨1,1,ir5,[],none⟩:=rfl
theorem U6:U 6=some ⟨1,1,ir6,[],none⟩:=rfl
theorem U7:U 7=some ⟨1,1,ir7,[],none⟩:=rfl
theorem U9:U 9=some ⟨2,2,ir9,[],none⟩:=rfl
theorem U10:U 10=some ⟨3,3,zve,[],none⟩:=rfl
theorem U11:U 11=some ⟨3,3,zvf,[],none⟩:=rfl
theorem U13:U 13=some ⟨2,2,zvg,[],none⟩:=rfl
theorem U14:U 14=some ⟨3,3,zvh,[],none⟩:=rfl
theorem U15:U 15=some ⟨3,13,zvi,[],none⟩:=rfl
theorem U16:U 16=some ⟨1,2,zvj,[],none⟩:=rfl
theorem U17:U 17=some ⟨3,3,zvk,[],none⟩:=rfl
theorem U18:U 18=some ⟨3,3,zvl,[],none⟩:=rfl
theorem U21:U 21=some ⟨1,1,zvm,[],none⟩:=rfl
theorem U22:U 22=some ⟨1,2,zvn,[],none⟩:=rfl
theorem U23:U 23=some ⟨2,5,zvo,[],none⟩:=rfl
theorem U24:U 24=some ⟨3,3,zvp,[],none⟩:=rfl
theorem U28:U 28=some ⟨2,5,zvq,[],none⟩:=rfl
theorem U37:U 37=some ⟨5,6,zs1,[2,4],none⟩:=rfl
theorem U38:U 38=some ⟨2,4,zvr,[],none⟩:=rfl
theorem U39:U 39=some ⟨2,2,zvs,[],none⟩:=rfl
theorem U40:U 40=some ⟨4,10,zvt,[],none⟩:=rfl
theorem U43:U 43=some ⟨2,2,zvu,[],none⟩:=rfl
theorem U47:U 47=some ⟨2,5,zvv,[],none⟩:=rfl
theorem U48:U 48=some ⟨1,9,zs2,[],none⟩:=rfl
end LK
namespace LK
open L2.LW
noncomputable def zat:Nat:=100000
noncomputable abbrev call(n i:Nat)(ds:List D):Option SV:=za7 U zat n i ds
theorem zay{n i:Nat}{F:Fn}{ds:List D}(h:U i=some F)(hl:ds.length=F.np)(hio:F.io=[]:=by rfl)(hx:F.xb=none:=by rfl):
  za7 U zat (n+1) i ds=zgx (zaR (zaq U zat n) zat F.body (ds.map (fun d=>some (.val d))++List.replicate (F.nl-F.np) none)):=zl0 h hl hio hx
noncomputable abbrev zaj:=Int×Int
noncomputable def cD(c:zaj):D:=.tup [.int c.1,.int c.2]
noncomputable def fD(f:List zaj):D:=.tup (f.map cD)
noncomputable def lD(f:List zaj):D:=.lst (f.map cD)
@[simp] theorem zxB{c:zaj}:plain (cD c)=true:=by simp[cD]
@[simp] theorem zeX: ∀{l:List zaj},zbr (l.map cD)=true
 |[]=>by simp
 |c::r=>by simp[zeX (l:=r)]
@[simp] theorem zxC{f:List zaj}:plain (fD f)=true:=by simp[fD]
@[simp] theorem zko{c:zaj}{n:Nat}:zby (n+1) (cD c)=true:=by simp[cD,zby]
@[simp] theorem zg4{n:Nat}{l:List zaj}:(l.map cD).all (zby (n+1))=true:=by
 rw[List.all_map,List.all_eq_true];intro x _;exact zko
@[simp] theorem zlq{a b:zaj}:eqD (cD a) (cD b)=decide (a=b):=by
 rw[Bool.eq_iff_iff]
 obtain⟨a1,a2⟩:=a;obtain⟨b1,b2⟩:=b
 simp[cD,eqD,zgp]
@[simp] theorem zl2: ∀{a b:List zaj},zgp (a.map cD) (b.map cD)=decide (a=b)
 |[],[]=>by simp[zgp]
 |[],_::_=>by simp[zgp]
 |_::_,[]=>by simp[zgp]
 |x::xs,y::ys=>by
  rw[Bool.eq_iff_iff]
  simp[zgp,zl2 (a:=xs) (b:=ys)]
@[simp] theorem zjc{c:zaj}{l:List zaj}:((l.map cD).any fun y=>eqD y (cD c))=decide (c∈l):=by
 rw[Bool.eq_iff_iff]
 simp[List.any_map,List.any_eq_true]
theorem zdP(n:Nat)(i a b:Int):za7 U zat (n+1) 0 [.int i,.int a,.int b]=some (.val (.bl (decide (a<=i)&&decide (i<=b)))):=by
 rw[zay U0 rfl]
 simp[ir0]
 by_cases h:a<=i<;>simp[h]
theorem zeY(n:Nat)(c:zaj):za7 U zat (n+1) 1 [cD c]=some (.val (.bl true)):=by
 rw[zay U1 rfl]
 simp[ir1,cD]
noncomputable def okC(c:zaj):Prop:=0<=c.1/\c.1<=7/\0<=c.2/\c.2<=7
theorem zl3(n:Nat){c:zaj}(h:okC c):za7 U zat (n+2) 2 [cD c]=some (.val (.bl true)):=by
 rw[zay U2 rfl]
 obtain⟨h1,h2,h3,h4⟩:=h
 have h0:=zeY n c
 simp[ir2,h0,zdP]
 simp[cD,zdP,h1,h2,h3,h4]
noncomputable def cLt(a b:zaj):Prop:=a.1<b.1\/(a.1=b.1/\a.2<b.2)
noncomputable instance (a b:zaj):Decidable (cLt a b):=by unfold cLt;exact inferInstance
@[simp] theorem zzh{a b:zaj}:zai .lt [cD a,cD b]=some (.val (.bl (decide (cLt a b)))):=by
 simp only[cD,zai,pLt,ints?,Option.map_some,Option.bind_some,zeR,lexLt]
 congr 3
 rw[Bool.eq_iff_iff]
 simp only[cLt]
 by_cases h:a.1=b.1
 ·simp[h]
  by_cases h2:a.2=b.2
  ·simp[h2]
  ·simp[h2]
 ·simp[h]
theorem zjd{a b c:zaj}(h:cLt a b)(h':cLt b c):cLt a c:=by
 unfold cLt at*;omega
theorem zdh{a:zaj}: ¬cLt a a:=by unfold cLt;omega
theorem zc1{a b:zaj}(h:cLt a b)(h':cLt b a):False:=zdh (zjd h h')
theorem zfR{a b:zaj}(h:a≠b):cLt a b\/cLt b a:=by
 unfold cLt
 have:a.1≠b.1\/a.2≠b.2:=by
  by_cases h1:a.1=b.1
  ·right;intro h2;exact h (Prod.ext h1 h2)
  ·exact .inl h1
 omega
structure OkF (f:List zaj):Prop where
 ne:f≠[]
 len:f.length<=24
 cells: ∀c∈f,okC c
 rise:f.Pairwise cLt
theorem OkF.nodup{f:List zaj}(h:f.Pairwise cLt):f.Nodup:=h.imp fun hab e=>by subst e;exact zdh hab
theorem zbl:(100000:Nat)<=line:=by decide
theorem zje{α:Type}{f:α->Bool}: ∀{l:List α},bools? (l.map fun x=>D.bl (f x))=some (l.map f)
 |[]=>rfl
 |x::r=>by simp[bools?,zje (l:=r)]
theorem zjf{α:Type}{f:α->Bool}{l:List α}:zai .all [.lst (l.map fun x=>D.bl (f x))]=some (.val (.bl (l.all f))):=by
 simp[zai,zwo,zje,List.all_map,Function.comp_def]
theorem zl4(n:Nat){l:zaj}(h:0<=l.1/\l.1<=l.2/\1<=l.2/\l.2<=4):za7 U zat (n+2) 3 [cD l]=some (.val (.bl true)):=by
 rw[zay U3 rfl]
 obtain⟨h1,h2,h3,h4⟩:=h
 have h0:=zeY n l
 simp[ir3,h0]
 simp[cD,zdP,h1,h2,h3,h4]
theorem zbM{i:Int}(h:0<=i)(h':i<=1000000):inR i:=by unfold inR;omega
theorem zeI{a b:Int}(h:inR a/\inR b):zaI true [.val (.int a),.val (.int b)]=some ((List.range (b-a).toNat).map fun (k:Nat)=>D.int (a+(k:Int))):=by simp[zaI,h]
theorem zg5{a:Int}(h:inR a):zaI true [.val (.int a)]=some ((List.range a.toNat).map fun (k:Nat)=>D.int (0+(k:Int))):=by simp[zaI,h]
@[simp] theorem zvw{l:List D}:zaI false [.val (.tup l)]=some l:=id rfl
@[simp] theorem zvx{l:List D}:zaI false [.val (.lst l)]=some l:=id rfl
@[simp] theorem zvy{o:Bool}{l:List D}:zaI false [.obj o (.lst l)]=some l:=id rfl
theorem zlr{f:List zaj}{k:Nat}(h:k<f.length):zai .idx [fD f,.int (k:Int)]=some (.val (cD f[k])):=by
 rw[fD,zu2,atI_nat (by simpa using h)];simp
theorem zjg(n:Nat){f:List zaj}(hl:f.length<=1000)(h:f.Pairwise cLt):za7 U zat (n+1) 4 [fD f]=some (.val (.bl true)):=by
 rw[zay U4 rfl]
 have hl':=zbl
 have e3:((f.length:Int)-1).toNat=f.length-1:=by omega
 simp only[ir4]
 simp
 rw[zeH (rs:=[.val (.int 1),.val (.int f.length)]) (xs:=List.range (f.length-1)) (f:=fun (k:Nat)=>D.int (1+(k:Int))) (fun _=>.bl true)]
 ·simp[zjf]
 ·simp[fD]
 ·rw[zeI ⟨zbM (by omega) (by omega),zbM (by omega) (by omega)⟩,e3]
 ·simp;omega
 ·intro k hk
  rw[List.mem_range] at hk
  have e1:(1+(k:Int)-1)=(k:Int):=by omega
  have e2:(1+(k:Int))=((k+1:Nat):Int):=by omega
  have hk1:k<f.length:=by omega
  have hk2:k+1<f.length:=by omega
  have:=List.pairwise_iff_getElem.mp h k (k+1) hk1 hk2 (by omega)
  simp[e1]
  rw[zlr hk1,e2,zlr hk2]
  simp[this]
@[simp] theorem zxD{f:List zaj}:zfh .tuple (fD f)=true:=id rfl
@[simp] theorem zxE{c:zaj}:zfh .tuple (cD c)=true:=id rfl
theorem zsh{f:List zaj}:zai .len [fD f]=some (.val (.int f.length)):=by simp[fD]
theorem zkp(n:Nat){f:List zaj}(h:OkF f):za7 U zat (n+3) 5 [fD f]=some (.val (.bl true)):=by
 rw[zay U5 rfl]
 have hl':=zbl
 have h1:=h.len
 have h2:1<=f.length:=by have:=h.ne;cases f<;>simp_all
 have hr:=zjg (n+1) (by omega) h.rise
 simp -implicitDefEqProofs only[ir5]
 simp -implicitDefEqProofs [zsh,show (1:Int)<=f.length by omega,show (f.length:Int)<=24 by omega,hr]
 rw[zeH (rs:=[.val (fD f)]) (xs:=f) (f:=cD) (fun _=>.bl true)]
 ·simp -implicitDefEqProofs [zjf,fD]
 ·simp
 ·rfl
 ·omega
 ·intro c hc
  simp -implicitDefEqProofs [zl3 n (h.cells c hc)]
theorem zg6(n:Nat){f:List zaj}(h:OkF f):za7 U zat (n+4) 6 [fD f]=some (.val (fD f)):=by
 rw[zay U6 rfl]
 simp[ir6,zkp n h]
structure OkL (l:zaj):Prop where
 a:0<=l.1
 b:l.1<=l.2
 c:1<=l.2
 d:l.2<=4
theorem zc2(n:Nat){l:zaj}(h:OkL l):za7 U zat (n+3) 7 [cD l]=some (.val (cD l)):=by
 rw[zay U7 rfl]
 simp[ir7,zl4 n ⟨h.a,h.b,h.c,h.d⟩]
theorem zzi{c:zaj}{f:List zaj}:zai .inn [cD c,lD f]=some (.val (.bl (decide (c∈f)))):=by
 simp only[lD,zai,pIn,zko,zg4,Bool.and_self,if_true,zjc,zeR]
theorem zqW{c:zaj}{f:List zaj}:zai .nin [cD c,lD f]=some (.val (.bl (!decide (c∈f)))):=by
 simp only[lD,zai,zry,zko,zg4,Bool.and_self,if_true,zjc,zeR]
noncomputable def zfS(i:Int):Int:=if i<0 then -i else i
noncomputable def zeZ(l a b:zaj):Bool:=decide ((min (zfS (a.1-b.1)) (zfS (a.2-b.2)),max (zfS (a.1-b.1)) (zfS (a.2-b.2)))=l)
theorem zd6(a b:Int):zfS (a-b)=zfS (b-a):=by unfold zfS;split<;>split<;>omega
theorem zc3(l a b:zaj):zeZ l a b=zeZ l b a:=by unfold zeZ;rw[zd6 a.1,zd6 a.2]
@[simp] theorem zBi{c:zaj}:zai .idx [cD c,.int 0]=some (.val (.int c.1)):=id rfl
@[simp] theorem zBj{c:zaj}:zai .idx [cD c,.int 1]=some (.val (.int c.2)):=id rfl
theorem zzj{a b:zaj}:zai .eq [cD a,cD b]=some (.val (.bl (decide (a=b)))):=by rw[zuZ (by simp) (by simp),zlq]
noncomputable def zzk(x y:Int):zaj:=(min (zfS x) (zfS y),max (zfS x) (zfS y))
theorem zn7(n:Nat)(x y:Int):za7 U zat (n+1) 9 [.int x,.int y]=some (.val (cD (zzk x y))):=by
 rw[zay U9 rfl]
 have e: ∀x y:Int,D.tup [.int (if y<x then y else x),.int (if y>x then y else x)]=cD (min x y,max x y):=by
  intro x y
  have e1:(if y<x then y else x)=min x y:=by split<;>omega
  have e2:(if y>x then y else x)=max x y:=by split<;>omega
  rw[e1,e2];rfl
 simp[ir9, -zqT, -zqU]
 simp only[zqT,zqU,Option.bind_some,ziF,toD,Option.map_some,Function.comp_apply]
 simp
 rw[e]
 rfl
theorem zn8(l a b:zaj):decide (zzk (b.1-a.1) (b.2-a.2)=l)=zeZ l a b:=by
 unfold zeZ zzk;rw[zd6 a.1,zd6 a.2]
theorem zkq(n:Nat)(l a b:zaj):za7 U zat (n+2) 10 [cD l,cD a,cD b]=some (.val (.bl (zeZ l a b))):=by
 rw[zay U10 rfl]
 simp[zve,zn7,zzj,zn8]
theorem zd7(n:Nat)(l c:zaj){f:List zaj}(h:f.length<=1000):za7 U zat (n+3) 11 [fD f,cD l,cD c]=some (.obj true (.lst ((f.filter (zeZ l c)).map cD))):=by
 rw[zay U11 rfl]
 have hl':=zbl
 simp only[zvf]
 simp
 rw[zbt (rs:=[.val (fD f)]) (xs:=f) (f:=cD) (zeZ l c) cD]
 ·simp
 ·simp
 ·rfl
 ·omega
 ·intro x _;simp[zkq]
 ·intro x _ _;simp
end LK
namespace LK
open L2.LW
noncomputable def sm(a:Int):Prop:= -(2 ^ 64)<a/\a<2 ^ 64
theorem zsi{a:Int}(h: -1000000<=a)(h':a<=1000000):sm a:=by unfold sm;omega
theorem zn9{a b:Int}(h:sm b):zai .mul [.int a,.int b]=some (.val (.int (a*b))):=zuY h
noncomputable def sD(ns:List Int):D:=.lst (ns.map D.int)
noncomputable def zfT(ns:List Int)(k:Int):Int:=ns.getD k.toNat 0
theorem zca(n:Nat)(ns:List Int){k:Int}(h:0<=k):za7 U zat (n+1) 13 [sD ns,.int k]=some (.val (.int (zfT ns k))):=by
 rw[zay U13 rfl]
 obtain⟨j,rfl⟩:=Int.eq_ofNat_of_zero_le h
 simp only[zvg]
 by_cases hj:j<ns.length
 ·have hj':(j:Int)<(ns.length:Int):=by omega
  simp[sD,hj']
  rw[zn5,atI_nat (by simpa using hj)]
  simp[zfT,hj]
 ·have hj': ¬(j:Int)<(ns.length:Int):=by omega
  simp[sD,hj']
  simp[zfT,List.getElem?_eq_none (by omega:ns.length<=j)]
theorem zbJ(n:Nat)(x:Int){p m:Int}(h:0<p)(h':0<m):za7 U zat (n+1) 14 [.int x,.int p,.int m]=some (.val (.int (x*48271%p%m))):=by
 rw[zay U14 rfl]
 simp[zvh,zn9 (zsi (a:=48271) (by decide) (by decide)),zfi h,zfi h']
structure Built (down right wide:Int)(r k:Int)(fs:List zaj):Prop where
 rise:fs.Pairwise cLt
 at_: ∀x∈fs,down<=x.1/\right<=x.2/\x.2<right+wide/\(x.1<down+r\/(x.1=down+r/\x.2<right+k))
theorem Built.next{down right wide r k:Int}{fs:List zaj}(b:Built down right wide r k fs)(hk:0<=k)(hw:k<wide)(hr:0<=r):Built down right wide r (k+1) (fs++[(down+r,right+k)]):=by
 refine⟨?_,fun x hx=>?_⟩
 ·rw[List.pairwise_append]
  refine⟨b.rise,by simp,fun x hx y hy=>?_⟩
  simp only[List.mem_singleton] at hy
  subst hy
  have:=b.at_ x hx
  unfold cLt;simp only;omega
 ·rw[List.mem_append,List.mem_singleton] at hx
  rcases hx with hx|rfl
  ·have:=b.at_ x hx;omega
  ·show down<=down+r/\right<=right+k/\right+k<right+wide/\(down+r<down+r\/(down+r=down+r/\right+k<right+(k+1)))
   omega
theorem Built.skip{down right wide r k:Int}{fs:List zaj}(b:Built down right wide r k fs):Built down right wide r (k+1) fs:=
 ⟨b.rise,fun x hx=>by have:=b.at_ x hx;omega⟩
theorem Built.row{down right wide r:Int}{fs:List zaj}(b:Built down right wide r wide fs):Built down right wide (r+1) 0 fs:=
 ⟨b.rise,fun x hx=>by have:=b.at_ x hx;omega⟩
theorem zAZ(a b c:D){w:Int}(h:w=0\/w=1\/w=2): ∃d,(d=a\/d=b\/d=c)/\zai .idx [.lst [a,b,c],.int w]=some (.val d):=by
 rcases h with rfl|rfl|rfl
 ·exact⟨a,.inl rfl,rfl⟩
 ·exact⟨b,.inr (.inl rfl),rfl⟩
 ·exact⟨c,.inr (.inr rfl),rfl⟩
@[simp] theorem zs3{fs:List zaj}{a b:Int}:fs.map cD++[.tup [.int a,.int b]]=(fs++[(a,b)]).map cD:=by simp[cD]
theorem zkr(n:Nat)(ns:List Int){at_ most x rows wide down right way r k:Int}{j12:Option SV}{fs:List zaj}(h0:0<=at_)(hr:0<=r/\r<=1000)(hk:0<=k/\k<=1000)(hw:0<=way/\way<4)(hl:fs.length<=1000)(hj:zbn (some j12)=true):
  ∃v fs',zbn (some v)=true/\zaR (zaq U zat (n+1)) zat zlk [some (.val (sD ns)),some (.val (.int at_)),some (.val (.int most)),some (.val (.int x)),some (.val (.int rows)),some (.val (.int wide)),some (.val (.int down)),some (.val (.int right)),some (.val (.int way)),
   some (.obj true (.lst (fs.map cD))),some (.val (.int r)),some (.val (.int k)),j12]=
   some (.nx,[some (.val (sD ns)),some (.val (.int at_)),some (.val (.int most)),some (.val (.int x)),some (.val (.int rows)),some (.val (.int wide)),some (.val (.int down)),some (.val (.int right)),some (.val (.int way)),
   some (.obj true (.lst (fs'.map cD))),some (.val (.int r)),some (.val (.int k)),v])/\(fs'=fs\/fs'=fs++[(down+r,right+k)]):=by
 have m1:sm r:=zsi (by omega) (by omega)
 have m2:sm k:=zsi (by omega) (by omega)
 have h7:(0:Int)<7:=by decide
 have hi:0<=at_+2+(r+2*k)%7:=by omega
 have hl':=zbl
 have hl2:fs.length<line:=by omega
 simp only[zlk]
 simp[zn9 m1,zn9 m2,zfi h7,zca n ns hi,hj]
 by_cases hz:way=0
 ·simp[hz,hl2]
  exact⟨_,zbB,fs++[(down+r,right+k)],by simp;rfl,.inr rfl⟩
 ·obtain⟨d,hd,e⟩:=zAZ (.int 2) (.int 4) (.int 7) (w:=way-1) (by omega)
  simp[hz,e]
  have key: ∃m,d= .int m/\0<m:=by
   rcases hd with rfl|rfl|rfl
   ·exact⟨_,rfl,by decide⟩
   ·exact⟨_,rfl,by decide⟩
   ·exact⟨_,rfl,by decide⟩
  obtain⟨m,rfl,hm⟩:=key
  simp[zbJ n _ (show (0:Int)<9931 by decide) hm]
  split
  ·simp[hl2]
   exact⟨_,zbB,fs++[(down+r,right+k)],by simp;rfl,.inr rfl⟩
  ·exact⟨_,zbB,fs,rfl,.inl rfl⟩
noncomputable def flE(ns:List Int)(at_ most x rows wide down right way:Int)(fs:List zaj)(a b c:Option SV):Env:=
 [some (.val (sD ns)),some (.val (.int at_)),some (.val (.int most)),some (.val (.int x)),some (.val (.int rows)),some (.val (.int wide)),some (.val (.int down)),some (.val (.int right)),some (.val (.int way)),some (.obj true (.lst (fs.map cD))),a,b,c]
theorem zoa(n:Nat)(ns:List Int){at_ most x rows wide down right way:Int}{r:Nat}{fs:List zaj}{b c:Option SV}(h0:0<=at_)(hr:r<=100)(hw:0<=wide/\wide<=6)(hy:0<=way/\way<4)(hl:fs.length<=6*r)(hb:Built down right wide r 0 fs)(fb:zbn (some b)=true)(fc:zbn (some c)=true):
  ∃a' b' c' fs',(zbn (some a')=true/\zbn (some b')=true/\zbn (some c')=true)/\zaR (zaq U zat (n+1)) zat zja (flE ns at_ most x rows wide down right way fs (some (.val (.int r))) b c)=some (.nx,flE ns at_ most x rows wide down right way fs' a' b' c')/\fs'.length<=6*(r+1)/\Built down right wide (r+1:Nat) 0 fs':=by
 obtain⟨ρ',h1,b',c',fs',fr,rfl,h2,h3⟩:=zlj (i:=11) (a:=0) (m:=wide.toNat) (body:=zaR (zaq U zat (n+1)) zat zlk)
  (fun k ρ=>∃b' c' fs',(zbn (some b')=true/\zbn (some c')=true)/\ρ=flE ns at_ most x rows wide down right way fs' (some (.val (.int r))) b' c'/\fs'.length<=6*r+k/\Built down right wide r (k:Int) fs') (ρ:=flE ns at_ most x rows wide down right way fs (some (.val (.int r))) b c)
  ⟨b,c,fs,⟨fb,fc⟩,rfl,by omega,hb⟩ fun k ρ hk zz3=>by
   obtain⟨b',c',fs',fr,e,h2,h3⟩:=zz3
   subst e
   obtain⟨v,fs2,fv,e1,e2⟩:=zkr n ns (at_:=at_) (most:=most) (x:=x) (rows:=rows) (wide:=wide) (down:=down) (right:=right) (way:=way) (r:=r) (k:=0+(k:Int)) (j12:=c') (fs:=fs') h0 (by omega) (by omega) hy (by omega) fr.2
   refine⟨_,_,e1,.inl rfl,_,v,fs2,⟨zbB,fv⟩,rfl,?_⟩
   rw[Int.zero_add] at e2
   rcases e2 with rfl|rfl
   ·exact⟨by omega,h3.skip⟩
   ·exact⟨by simp;omega,h3.next (by omega) (by omega) (by omega)⟩
 refine⟨some (.val (.int r)),b',c',fs',⟨zbB,fr.1,fr.2⟩,?_,by omega,?_⟩
 ·simp only[zja,zcA,zdO,zi6,zle,znZ,zn0]
  rw[show (flE ns at_ most x rows wide down right way fs (some (.val (.int r))) b c)[11]? =some b from rfl,fb,show look (flE ns at_ most x rows wide down right way fs (some (.val (.int r))) b c) 5=some (.val (.int wide)) from rfl]
  simp[zg5 (zbM hw.1 (by omega:wide<=1000000))]
  rw[show (List.map (fun (k:Nat)=>D.int (k:Int)) (List.range wide.toNat))=(List.range wide.toNat).map fun (k:Nat)=>D.int (0+(k:Int)) by simp,h1]
  simp
 ·have e:(wide.toNat:Int)=wide:=by omega
  rw[e] at h3
  have:=h3.row
  simpa using this
theorem zob(n:Nat)(ns:List Int){at_ most x rows wide down right way:Int}{a b c:Option SV}(h0:0<=at_)(hr:0<=rows/\rows<=5)(hw:0<=wide/\wide<=6)(hy:0<=way/\way<4)(fa:zbn (some a)=true)(fb:zbn (some b)=true)(fc:zbn (some c)=true):
  ∃a' b' c' fs',exS (zaq U zat (n+1)) zat (.for_ 10 true (.cons (.var 4) .nil) zja) (flE ns at_ most x rows wide down right way [] a b c)=some (.nx,flE ns at_ most x rows wide down right way fs' a' b' c')/\Built down right wide rows 0 fs'/\fs'.length<=30:=by
 obtain⟨ρ',h1,a',b',c',fs',fr,rfl,h2,h3⟩:=zlj (i:=10) (a:=0) (m:=rows.toNat) (body:=zaR (zaq U zat (n+1)) zat zja)
  (fun k ρ=>∃a' b' c' fs',(zbn (some a')=true/\zbn (some b')=true/\zbn (some c')=true)/\ρ=flE ns at_ most x rows wide down right way fs' a' b' c'/\fs'.length<=6*k/\Built down right wide (k:Int) 0 fs') (ρ:=flE ns at_ most x rows wide down right way [] a b c)
  ⟨a,b,c,[],⟨fa,fb,fc⟩,rfl,by simp,⟨by simp,by simp⟩⟩ fun k ρ hk zz3=>by
   obtain⟨a',b',c',fs',fr,e,h2,h3⟩:=zz3
   subst e
   obtain⟨a2,b2,c2,fs2,fr2,e1,e2,e3⟩:=zoa n ns (at_:=at_) (most:=most) (x:=x) (rows:=rows) (wide:=wide) (down:=down) (right:=right) (way:=way) (r:=k) (fs:=fs') (b:=b') (c:=c') h0 (by omega) hw hy h2 h3 fr.2.1 fr.2.2
   refine⟨_,_,?_,.inl rfl,a2,b2,c2,fs2,fr2,rfl,e2,e3⟩
   rw[Int.zero_add]
   exact e1
 refine⟨a',b',c',fs',?_,?_,by omega⟩
 ·simp only[zdO,zi6,zle,znZ,zn0]
  rw[show (flE ns at_ most x rows wide down right way [] a b c)[10]? =some a from rfl,fa,show look (flE ns at_ most x rows wide down right way [] a b c) 4=some (.val (.int rows)) from rfl]
  simp[zg5 (zbM hr.1 (by omega:rows<=1000000))]
  rw[show (List.map (fun (k:Nat)=>D.int (k:Int)) (List.range rows.toNat))=(List.range rows.toNat).map fun (k:Nat)=>D.int (0+(k:Int)) by simp,h1]
 ·have e:(rows.toNat:Int)=rows:=by omega
  rw[e] at h3
  exact h3
theorem zqX{fs:List zaj}{k:Int}(h:0<=k):zai .cutTo [.lst (fs.map cD),.int k]=some (.obj true (.lst ((fs.take k.toNat).map cD))):=by
 simp[zai,zkP,h]
noncomputable def zzl(f:List zaj):Prop:=∃d:Int,∀c∈f,d<=c.1/\c.1<d+5
theorem zhI(n:Nat)(ns:List Int){at_ most:Int}(h0:0<=at_)(hm:1<=most)(hm2:most<=24): ∃f,OkF f/\(f.length:Int)<=most/\zzl f/\za7 U zat (n+2) 15 [sD ns,.int at_,.int most]=some (.val (fD f)):=by
 rw[zay U15 rfl]
 simp only[zvi]
 have p5:(0:Int)<5:=by decide
 have p6:(0:Int)<6:=by decide
 have p4:(0:Int)<4:=by decide
 have q1:(0:Int)<9973:=by decide
 have q2:(0:Int)<9967:=by decide
 have q3:(0:Int)<9949:=by decide
 have q4:(0:Int)<9941:=by decide
 have q5:(0:Int)<9907:=by decide
 have h1:0<=at_+1:=by omega
 simp[zca n ns h0,zca n ns h1,zbJ n _ q1 p5,zbJ n _ q2 p6,zbJ n _ q5 p4]
 generalize hx:zfT ns at_=x
 generalize hrows:1+x*48271%9973%5=rows
 generalize hwide:1+x*48271%9967%6=wide
 have hr9:0<9-rows:=by omega
 have hw9:0<9-wide:=by omega
 simp[zbJ n _ q3 hr9,zbJ n _ q4 hw9,zca n ns h1,zbJ n _ q5 p4]
 generalize hdown:zfT ns (at_+1)*48271%9949%(9-rows)=down
 generalize hright:zfT ns (at_+1)*48271%9941%(9-wide)=right
 generalize hway:(x+3)*48271%9907%4=way
 have bw:0<=way/\way<4:=by omega
 have bd:0<=down/\down<9-rows:=by rw[<-hdown];exact⟨Int.emod_nonneg _ (by omega),Int.emod_lt_of_pos _ hr9⟩
 have br:0<=right/\right<9-wide:=by rw[<-hright];exact⟨Int.emod_nonneg _ (by omega),Int.emod_lt_of_pos _ hw9⟩
 obtain⟨a',b',c',fs,e1,hb,hl⟩:=zob n ns (at_:=at_) (most:=most) (x:=x) (rows:=rows) (wide:=wide) (down:=down) (right:=right) (way:=way) (a:=none) (b:=none) (c:=none) h0 (by omega) (by omega) bw rfl rfl rfl
 have e1':=e1
 simp only[flE,List.map_nil] at e1'
 have hok: ∀c∈fs,okC c:=fun c hc=>by
  have:=hb.at_ c hc
  unfold okC;omega
 by_cases hf:fs=[]
 ·subst hf
  refine⟨[(down,right)],⟨by simp,by simp,fun c hc=>?_,by simp⟩,by simp;omega,⟨down,fun c hc=>?_⟩,?_⟩
  ·simp at hc;subst hc;unfold okC;simp only;omega
  ·simp at hc;subst hc;simp only;omega
  ·simp[e1']
   rw[show D.tup [.int down,.int right]=cD (down,right) from rfl,show ([cD (down,right)]:List D)=[(down,right)].map cD from rfl,zqX (by omega)]
   rw[List.take_of_length_le (by simp;omega)]
   simp[fD]
 ·refine⟨fs.take most.toNat,⟨fun h=>?_,?_,fun c hc=>hok c (List.mem_of_mem_take hc),hb.rise.sublist (List.take_sublist _ _)⟩,?_,⟨down,fun c hc=>?_⟩,?_⟩
  ·rw[List.take_eq_nil_iff] at h
   rcases h with h|h
   ·omega
   ·exact hf h
  ·rw[List.length_take];omega
  ·rw[List.length_take];omega
  ·have:=hb.at_ c (List.mem_of_mem_take hc)
   omega
  ·have hne:fs.map cD≠[]:=by simpa using hf
   simp[e1',hne,hf]
   rw[zqX (by omega)]
   simp[fD]
theorem zjh(n:Nat)(ns:List Int){at_ most:Int}(h0:0<=at_)(hm:1<=most)(hm2:most<=24): ∃f,OkF f/\(f.length:Int)<=most/\za7 U zat (n+2) 15 [sD ns,.int at_,.int most]=some (.val (fD f)):=by
 obtain⟨f,h1,h2,_,h3⟩:=zhI n ns h0 hm hm2
 exact⟨f,h1,h2,h3⟩
end LK
namespace LK
open L2.LW
noncomputable def zfU:List zaj:=[(1,2),(0,1),(1,1),(1,2),(0,2),(1,3),(2,3),(0,1),(1,2),(2,2),(0,3),(1,4),(2,4),(3,3),(3,4),(0,4),(4,4),(1,2),(1,1)]
theorem zl5: ∀l∈zfU,OkL l:=by
 intro l hl
 simp only[zfU,List.mem_cons,List.not_mem_nil,or_false] at hl
 rcases hl with rfl|rfl|rfl|rfl|rfl|rfl|rfl|rfl|rfl|rfl|rfl|rfl|rfl|rfl|rfl|rfl|rfl|rfl|rfl<;>exact⟨by decide,by decide,by decide,by decide⟩
theorem zks(n:Nat)(x:Int): ∃l,OkL l/\za7 U zat (n+1) 16 [.int x]=some (.val (cD l)):=by
 rw[zay U16 rfl]
 have h19:(0:Int)<19:=by decide
 have hl:=zbl
 obtain⟨k,hk⟩:=Int.eq_ofNat_of_zero_le (Int.emod_nonneg x (by decide:(19:Int)≠0))
 have hk2:k<19:=by have:=Int.emod_lt_of_pos x h19;omega
 have hlen:zfU.length=19:=rfl
 refine⟨zfU[k]'(by omega),zl5 _ (List.getElem_mem _),?_⟩
 simp only[zvj]
 simp[zfi h19,hk]
 rw[zlh (by simp;omega)]
 simp
 rw[show ([D.tup [.int 1,.int 2],.tup [.int 0,.int 1],.tup [.int 1,.int 1],.tup [.int 1,.int 2],.tup [.int 0,.int 2],.tup [.int 1,.int 3],.tup [.int 2,.int 3],.tup [.int 0,.int 1],.tup [.int 1,.int 2],.tup [.int 2,.int 2],.tup [.int 0,.int 3],.tup [.int 1,.int 4],.tup [.int 2,.int 4],
  .tup [.int 3,.int 3],.tup [.int 3,.int 4],.tup [.int 0,.int 4],.tup [.int 4,.int 4],.tup [.int 1,.int 2],.tup [.int 1,.int 1]]:List D)=zfU.map cD from rfl]
 rw[zn5,atI_nat (by simp;omega)]
 simp
theorem zoc(x y:Int):zhj [x,y]=[min x y,max x y]:=by
 by_cases h:x<=y
 ·simp[zhj,List.mergeSort,List.MergeSort.Internal.splitInTwo,h,List.merge]
  omega
 ·simp[zhj,List.mergeSort,List.MergeSort.Internal.splitInTwo,h,List.merge]
  omega
theorem zdz(n:Nat)(l a b:zaj):za7 U zat (n+1) 17 [cD l,cD a,cD b]=some (.val (.bl (zeZ l a b))):=by
 rw[zay U17 rfl]
 simp only[zvk]
 simp
 have e:zai .sorted [.lst [.int (if a.1-b.1<0 then -(a.1-b.1) else a.1-b.1),.int (if a.2-b.2<0 then -(a.2-b.2) else a.2-b.2)]]=some (.obj true (.lst [.int (min (zfS (a.1-b.1)) (zfS (a.2-b.2))),.int (max (zfS (a.1-b.1)) (zfS (a.2-b.2)))])):=by
  simp[zai,zhk,zfD,ints?,zoc,zfS]
 rw[e,show zai .toList [cD l]=some (.obj true (.lst [.int l.1,.int l.2])) from rfl]
 simp
 rw[zuZ (by simp[zby]) (by simp[zby])]
 simp[eqD,zgp]
 unfold zeZ
 rw[Bool.eq_iff_iff]
 obtain⟨l1,l2⟩:=l
 simp
theorem zkt(n:Nat)(l c:zaj){f:List zaj}(h:f.length<=1000):za7 U zat (n+2) 18 [fD f,cD l,cD c]=some (.obj true (.lst ((f.filter (zeZ l c)).map cD))):=by
 rw[zay U18 rfl]
 have hl':=zbl
 simp only[zvl]
 simp
 rw[zbt (rs:=[.val (fD f)]) (xs:=f) (f:=cD) (zeZ l c) cD]
 ·simp
 ·simp
 ·rfl
 ·omega
 ·intro x _;simp[zdz]
 ·intro x _ _;simp
noncomputable def depth:Nat:=40
end LK
namespace LK
open L2.LW
noncomputable abbrev Ms:=List (zaj×zaj)
noncomputable def dD(ms:Ms):D:=.dct true (ms.map fun p=>cD p.1) (ms.map fun p=>cD p.2)
noncomputable def get(ms:Ms)(c:zaj):Option zaj:=(ms.find? fun p=>decide (p.1=c)).map (·.2)
noncomputable def put(ms:Ms)(c v:zaj):Ms:=if (get ms c).isSome then ms.map (fun p=>if p.1=c then (p.1,v) else p) else ms++[(c,v)]
@[simp] theorem zg7{c:zaj}:zbW true (cD c)=true:=by simp[cD,zbW,ints?]
theorem zji(c:zaj): ∀l:List zaj,kix (l.map cD) (cD c)=l.findIdx? fun x=>decide (x=c)
 |[]=>rfl
 |x::r=>by
  have ih:=zji c r
  unfold kix at ih⊢
  rw[List.map_cons,List.findIdx?_cons,List.findIdx?_cons,zlq,ih]
theorem zd8(c:zaj): ∀l:List zaj,(kix (l.map cD) (cD c)).isSome=decide (c∈l):=fun l=>by
 rw[zji]
 cases e:l.findIdx? fun x=>decide (x=c) with
 |none=>
  rw[List.findIdx?_eq_none_iff] at e
  have:c∉l:=fun h=>by have:=e c h;simp at this
  simp[this]
 |some i=>
  obtain⟨h1,h2,_⟩:=List.findIdx?_eq_some_iff_getElem.mp e
  have:c∈l:=by
   have h2:l[i]=c:=by simpa using h2
   rw[<-h2];exact List.getElem_mem h1
  simp[this]
theorem zod(c:zaj):get [] c=none:=rfl
theorem zcJ(p:zaj×zaj)(r:Ms)(c:zaj):get (p::r) c=if p.1=c then some p.2 else get r c:=by
 unfold get
 rw[List.find?_cons]
 by_cases h:p.1=c<;>simp[h]
theorem zb5(c:zaj): ∀ms:Ms,(get ms c).isSome=decide (c∈ms.map (·.1))
 |[]=>rfl
 |p::r=>by
  rw[zcJ,List.map_cons]
  by_cases h:p.1=c
  ·simp[h]
  ·rw[if_neg h,zb5 c r]
   have: ¬c=p.1:=fun z=>h z.symm
   simp[this]
theorem zoe(c:zaj): ∀ms:Ms,zrx (ms.map fun p=>cD p.1) (ms.map fun p=>cD p.2) (cD c)=(get ms c).map cD
 |[]=>rfl
 |p::r=>by
  have ih:=zoe c r
  unfold zrx kix at ih⊢
  rw[List.map_cons,List.map_cons,List.findIdx?_cons,zlq,zcJ]
  by_cases h:p.1=c
  ·simp[h]
  ·rw[if_neg h,<-ih]
   simp only[h,decide_false,Bool.false_eq_true,if_false]
   cases (List.findIdx? (fun x=>eqD x (cD c)) (r.map fun p=>cD p.1))<;>simp
theorem zhJ(ms:Ms):(ms.map fun p=>cD p.1)=(ms.map (·.1)).map cD:=by rw[List.map_map];rfl
@[simp] theorem zA0{c:zaj}{ms:Ms}:zai .inn [cD c,dD ms]=some (.val (.bl (get ms c).isSome)):=by
 simp only[dD,zai,pIn,zg7,if_true,zeR,zhJ,zd8,zb5]
@[simp] theorem zvz{c:zaj}{ms:Ms}:zai .nin [cD c,dD ms]=some (.val (.bl (!(get ms c).isSome))):=by
 simp only[dD,zai,zry,zg7,if_true,zeR,zhJ,zd8,zb5]
theorem zjj{c:zaj}{ms:Ms}{v:zaj}(h:get ms c=some v):zai .idx [dD ms,cD c]=some (.val (cD v)):=by
 simp only[dD,zai,zwl,zg7,if_true,zoe,h,Option.map_some]
theorem zsj(ms:Ms)(c v:zaj):zkO true (ms.map fun p=>cD p.1) (ms.map fun p=>cD p.2) (cD c) (cD v)=dD (put ms c v):=by
 unfold zkO put
 rw[zhJ,zd8,<-zb5,<-zhJ]
 split
 ·have: ∀ms:Ms,List.zipWith (fun k' v'=>if eqD k' (cD c)=true then cD v else v') (ms.map fun p=>cD p.1) (ms.map fun p=>cD p.2)=ms.map fun p=>cD (if p.1=c then (p.1,v) else p).2:=by
   intro ms
   induction ms with
   |nil=>rfl
   |cons p r ih=>
    rw[List.map_cons,List.map_cons,List.zipWith_cons_cons,ih,List.map_cons,zlq]
    by_cases h:p.1=c<;>simp[h]
  rw[this]
  unfold dD
  rw[List.map_map,List.map_map]
  congr 1
  ·apply List.map_congr_left
   intro p _
   show cD p.1=cD (if p.1=c then (p.1,v) else p).1
   split<;>rfl
 ·simp[dD]
@[simp] theorem zvA{ms:Ms}:zbr (ms.map fun p=>cD p.2)=true:=by
 have:(ms.map fun p=>cD p.2)=(ms.map (·.2)).map cD:=by rw[List.map_map];rfl
 rw[this];exact zeX
@[simp] theorem zxF{ms:Ms}:zgt (dD ms)=true:=by simp[dD]
@[simp] theorem zvB{ms:Ms}:zbU (dD ms)=true:=by simp[dD]
theorem zeJ(ms:Ms)(c v x:zaj):get (put ms c v) x=if x=c then some v else get ms x:=by
 unfold put
 split
 ·rename_i h
  have key: ∀ms:Ms,get (ms.map fun p=>if p.1=c then (p.1,v) else p) x=if x=c then (get ms x).map (fun _=>v) else get ms x:=by
   intro ms
   induction ms with
   |nil=>simp[zod]
   |cons p r ih=>
    rw[List.map_cons,zcJ,zcJ,ih]
    by_cases h1:p.1=c
    ·subst h1
     by_cases h2:p.1=x
     ·subst h2;simp
     ·have h3: ¬x=p.1:=fun z=>h2 z.symm
      simp[h2,h3]
    ·by_cases h2:p.1=x
     ·subst h2;simp[h1]
     ·simp[h1,h2]
  rw[key]
  by_cases hx:x=c
  ·subst hx
   obtain⟨y,hy⟩:=Option.isSome_iff_exists.mp h
   simp[hy]
  ·simp[hx]
 ·rename_i h
  have key: ∀ms:Ms,get (ms++[(c,v)]) x=match get ms x with
    |some y=>some y
    |none=>if x=c then some v else none:=by
   intro ms
   induction ms with
   |nil=>
    show get ((c,v)::[]) x=_
    rw[zcJ,zod]
    by_cases h:c=x
    ·subst h;simp
    ·have: ¬x=c:=fun z=>h z.symm
     simp[h,this]
   |cons p r ih=>
    rw[List.cons_append,zcJ,zcJ,ih]
    by_cases h:p.1=x<;>simp[h]
  rw[key]
  by_cases hx:x=c
  ·subst hx
   have:get ms x=none:=by simpa using h
   simp[this]
  ·cases get ms x<;>simp[hx]
theorem zof(ms:Ms)(c v:zaj):(put ms c v).length<=ms.length+1:=by
 unfold put;split<;>simp
noncomputable def zjk(ms:Ms):Prop:=(ms.map (·.1)).Nodup
theorem zpV(ms:Ms)(c v:zaj):(put ms c v).map (·.1)=if c∈ms.map (·.1) then ms.map (·.1) else ms.map (·.1)++[c]:=by
 unfold put
 rw[zb5]
 by_cases h:c∈ms.map (·.1)
 ·simp only[h,decide_true,if_true]
  rw[List.map_map]
  apply List.map_congr_left
  intro p _
  show (if p.1=c then (p.1,v) else p).1=p.1
  split<;>rfl
 ·simp[h]
theorem zjl{ms:Ms}{c v:zaj}(h:zjk ms):zjk (put ms c v):=by
 unfold zjk at*
 rw[zpV]
 split
 ·exact h
 ·rename_i hc
  rw[List.nodup_append]
  refine⟨h,by simp,fun a ha b hb e=>?_⟩
  simp at hb;subst hb;subst e;exact hc ha
theorem zbo{α:Type}[DecidableEq α]: ∀{l m:List α},l.Nodup->(∀x∈l,x∈m)->l.length<=m.length
 |[],_,_,_=>Nat.zero_le _
 |x::r,m,hn,hs=>by
  rw[List.nodup_cons] at hn
  have hx:=hs x List.mem_cons_self
  have ih:=zbo (l:=r) (m:=m.erase x) hn.2 fun y hy=>by
   rw[List.mem_erase_of_ne (fun e=>hn.1 (by rw[<-e];exact hy))]
   exact hs y (List.mem_cons_of_mem _ hy)
  rw[List.length_erase_of_mem hx] at ih
  have:0<m.length:=List.length_pos_of_mem hx
  simp;omega
noncomputable def zxG(l:zaj):List Int:=((List.range l.2.toNat).map fun (k:Nat)=>(1+(k:Int))).filter fun d=>decide (l.1%d=0)&&decide (l.2%d=0)
noncomputable def zb6(l:zaj):Int:=match zxG l with
 |[]=>1
 |n::r=>r.foldl max n
theorem zku{l:zaj}(h:OkL l):l∈[((0:Int),(1:Int)),(1,1),(0,2),(1,2),(2,2),(0,3),(1,3),(2,3),(3,3),(0,4),(1,4),(2,4),(3,4),(4,4)]:=by
 obtain⟨h1,h2,h3,h4⟩:=h
 have all: ∀i j:Fin 5,i.1<=j.1->1<=j.1->(((i.1:Nat):Int),((j.1:Nat):Int))∈[((0:Int),(1:Int)),(1,1),(0,2),(1,2),(2,2),(0,3),(1,3),(2,3),(3,3),(0,4),(1,4),(2,4),(3,4),(4,4)]:=by decide+kernel
 have:=all ⟨l.1.toNat,by omega⟩ ⟨l.2.toNat,by omega⟩ (by simp only;omega) (by simp only;omega)
 simp only at this
 rw[Int.toNat_of_nonneg h1,Int.toNat_of_nonneg (by omega)] at this
 exact this
theorem OkL.cases{P:zaj->Prop}{l:zaj}(h:OkL l)(p: ∀x∈[((0:Int),(1:Int)),(1,1),(0,2),(1,2),(2,2),(0,3),(1,3),(2,3),(3,3),(0,4),(1,4),(2,4),(3,4),(4,4)],P x):P l:=p l (zku h)
theorem zft{l:zaj}(h:OkL l):zxG l≠[]/\1<=zb6 l/\zb6 l<=4:=by
 revert l
 intro l h
 have:=zku h
 simp only[List.mem_cons,List.not_mem_nil,or_false] at this
 rcases this with rfl|rfl|rfl|rfl|rfl|rfl|rfl|rfl|rfl|rfl|rfl|rfl|rfl|rfl<;>decide+kernel
theorem zcb(n:Nat){l:zaj}(h:OkL l):za7 U zat (n+1) 21 [cD l]=some (.val (.int (zb6 l))):=by
 rw[zay U21 rfl]
 have hl':=zbl
 have h3:=h.c
 have h4:=h.d
 have e3:(l.2+1-1).toNat=l.2.toNat:=by omega
 simp only[zvm]
 simp
 rw[zbt (rs:=[.val (.int 1),.val (.int (l.2+1))]) (xs:=(List.range l.2.toNat).map fun (k:Nat)=>(1+(k:Int))) (f:=D.int) (fun d=>decide (l.1%d=0)&&decide (l.2%d=0)) D.int]
 ·obtain⟨hne,_⟩:=zft h
  show zgx ((((zai .maxL [.lst ((zxG l).map D.int)])).bind _).bind _)=_
  unfold zb6
  cases e:zxG l with
  |nil=>exact absurd e hne
  |cons n r=>
   rw[zqV]
   simp
 ·simp
 ·rw[zeI ⟨zbM (by omega) (by omega),zbM (by omega) (by omega)⟩,e3,List.map_map]
  rfl
 ·simp;omega
 ·intro d hd
  rw[List.mem_map] at hd
  obtain⟨k,hk,rfl⟩:=hd
  have hp:0<1+(k:Int):=by omega
  simp[zfi hp]
  by_cases h0:l.1%(1+(k:Int))=0
  ·simp[h0];rw[Bool.eq_iff_iff];simp
  ·simp[h0]
 ·intro d hd _
  simp
noncomputable def zmu(l:zaj):Bool:=decide ((l.1/zb6 l+l.2/zb6 l)%2=1)
noncomputable def hue(l c:zaj):Int:=if zmu l then (c.1/zb6 l+c.2/zb6 l)%2 else c.1/zb6 l%2
theorem zgy(n:Nat){l:zaj}(h:OkL l):za7 U zat (n+2) 22 [cD l]=some (.val (.bl (zmu l))):=by
 rw[zay U22 rfl]
 obtain⟨_,g1,g2⟩:=zft h
 have hg:0<zb6 l/\zb6 l<1073741824:=by omega
 have h2:(0:Int)<2:=by decide
 simp[zvn,zcb n h,zn4 hg,zfi h2]
 unfold zmu
 rw[Bool.eq_iff_iff];simp
theorem zjm(n:Nat){l:zaj}(h:OkL l)(c:zaj):za7 U zat (n+3) 23 [cD l,cD c]=some (.val (.int (hue l c))):=by
 rw[zay U23 rfl]
 obtain⟨_,g1,g2⟩:=zft h
 have hg:0<zb6 l/\zb6 l<1073741824:=by omega
 have h2:(0:Int)<2:=by decide
 simp[zvo,zcb (n+1) h,zgy n h,zn4 hg,zfi h2]
 unfold hue
 by_cases ho:zmu l=true<;>simp[ho,zfi h2]
theorem zc4(n:Nat){l:zaj}(h:OkL l){f:List zaj}(hf:f.length<=1000)(k:Int):za7 U zat (n+4) 24 [fD f,cD l,.int k]=some (.obj true (.lst ((f.filter fun c=>decide (hue l c=k)).map cD))):=by
 rw[zay U24 rfl]
 have hl':=zbl
 simp only[zvp]
 simp
 rw[zbt (rs:=[.val (fD f)]) (xs:=f) (f:=cD) (fun c=>decide (hue l c=k)) cD]
 ·simp
 ·simp
 ·rfl
 ·omega
 ·intro x _
  simp[zjm n h]
  rw[Bool.eq_iff_iff];simp
 ·intro x _ _;simp
theorem zog(i:Int):(zfS i=i/\0<=i)\/(zfS i= -i/\i<0):=by
 unfold zfS;split<;>omega
theorem zpW{l a b:zaj}:zeZ l a b=true↔(zfS (a.1-b.1)=l.1/\zfS (a.2-b.2)=l.2/\l.1<=l.2)\/(zfS (a.1-b.1)=l.2/\zfS (a.2-b.2)=l.1/\l.1<=l.2):=by
 unfold zeZ
 rw[decide_eq_true_iff]
 obtain⟨l1,l2⟩:=l
 simp only[Prod.mk.injEq]
 omega
theorem zpX{l:zaj}(h:OkL l):1<=zb6 l/\l.1=zb6 l*(l.1/zb6 l)/\l.2=zb6 l*(l.2/zb6 l)/\(zmu l=false->l.1/zb6 l%2=1/\l.2/zb6 l%2=1):=
 OkL.cases (P:=fun l=>1<=zb6 l/\l.1=zb6 l*(l.1/zb6 l)/\l.2=zb6 l*(l.2/zb6 l)/\(zmu l=false->l.1/zb6 l%2=1/\l.2/zb6 l%2=1)) h (by decide+kernel)
theorem zpY{g m x y:Int}(hg:1<=g)(h:x-y=g*m\/x-y= -(g*m)):(x/g=y/g+m\/x/g=y/g-m)/\x%g=y%g:=by
 rcases h with h|h
 ·rw[show x=y+g*m by omega,Int.add_mul_ediv_left _ _ (by omega),Int.add_mul_emod_self_left]
  exact⟨.inl rfl,rfl⟩
 ·rw[show x=y+g*(-m) by rw[Int.mul_neg];omega,Int.add_mul_ediv_left _ _ (by omega),Int.add_mul_emod_self_left]
  exact⟨.inr (by omega),rfl⟩
theorem zl6{l a b:zaj}(h:OkL l)(hn:zeZ l a b=true): ∃m n:Int,(a.1/zb6 l=b.1/zb6 l+m\/a.1/zb6 l=b.1/zb6 l-m)/\(a.2/zb6 l=b.2/zb6 l+n\/a.2/zb6 l=b.2/zb6 l-n)/\
  a.1%zb6 l=b.1%zb6 l/\a.2%zb6 l=b.2%zb6 l/\(zmu l=true->(m+n)%2=1)/\(zmu l=false->m%2=1/\n%2=1):=by
 obtain⟨g1,e1,e2,ev⟩:=zpX h
 have od:zmu l=true->(l.1/zb6 l+l.2/zb6 l)%2=1:=fun z=>by unfold zmu at z;exact of_decide_eq_true z
 have ha:=zog (a.1-b.1)
 have hb:=zog (a.2-b.2)
 rw[zpW] at hn
 generalize zb6 l=g at*
 generalize l.1/g=m at*
 generalize l.2/g=n at*
 rw[e1,e2] at hn
 rcases hn with ⟨p,q,_⟩|⟨p,q,_⟩
 ·obtain⟨s1,s2⟩:=zpY (x:=a.1) (y:=b.1) g1 (m:=m) (by omega)
  obtain⟨t1,t2⟩:=zpY (x:=a.2) (y:=b.2) g1 (m:=n) (by omega)
  exact⟨m,n,s1,t1,s2,t2,od,ev⟩
 ·obtain⟨s1,s2⟩:=zpY (x:=a.1) (y:=b.1) g1 (m:=n) (by omega)
  obtain⟨t1,t2⟩:=zpY (x:=a.2) (y:=b.2) g1 (m:=m) (by omega)
  exact⟨n,m,s1,t1,s2,t2,fun z=>by have:=od z;omega,fun z=>⟨(ev z).2,(ev z).1⟩⟩
theorem zbY{l a b:zaj}(h:OkL l)(hn:zeZ l a b=true):hue l a≠hue l b:=by
 obtain⟨m,n,s,t,_,_,od,ev⟩:=zl6 h hn
 unfold hue
 by_cases z:zmu l=true
 ·have:=od z
  rw[if_pos z,if_pos z];omega
 ·have:=(ev (by simpa using z)).1
  rw[if_neg z,if_neg z];omega
theorem zcc{l:zaj}(c:zaj):hue l c=0\/hue l c=1:=by
 unfold hue;split<;>omega
end LK
namespace LK
open L2.LW
theorem zg8{i:Nat}{body:Env->Option (Fl×Env)}(I:List zaj->Env->Prop)(Q:SV->Env->Prop){xs:List zaj}{ρ:Env}(h0:I [] ρ)
  (st: ∀pre x post ρ,xs=pre++x::post->I pre ρ->∃fl ρ',body (ρ.set i (some (.val (cD x))))=some (fl,ρ')/\(((fl= .nx\/fl= .ct)/\I (pre++[x]) ρ')\/∃r,fl= .rt r/\Q r ρ')):
  ∃fl ρ',zeA i body (xs.map cD) ρ=some (fl,ρ')/\((fl= .nx/\I xs ρ')\/∃r,fl= .rt r/\Q r ρ'):=by
 have key: ∀(post pre:List zaj) (ρ:Env),xs=pre++post->I pre ρ->∃fl ρ',zeA i body (post.map cD) ρ=some (fl,ρ')/\((fl= .nx/\I xs ρ')\/∃r,fl= .rt r/\Q r ρ'):=by
  intro post
  induction post with
  |nil=>intro pre ρ e h;exact⟨_,ρ,rfl,.inl ⟨rfl,by rw[e];simpa using h⟩⟩
  |cons x post ih=>
   intro pre ρ e h
   obtain⟨fl,ρ1,e1,e2⟩:=st pre x post ρ e h
   rw[List.map_cons,zeA,e1]
   simp only[Option.bind_some]
   rcases e2 with ⟨e2,h1⟩|⟨r,rfl,q⟩
   ·obtain⟨fl',ρ',e3,h3⟩:=ih (pre++[x]) ρ1 (by simp[e]) h1
    rcases e2 with rfl|rfl<;>exact⟨fl',ρ',e3,h3⟩
   ·exact⟨_,ρ1,rfl,.inr ⟨r,rfl,q⟩⟩
 exact key xs [] ρ rfl h0
theorem zdQ{i:Nat}{body:Env->Option (Fl×Env)}(I:List zaj->Env->Prop){xs:List zaj}{ρ:Env}(h0:I [] ρ)
  (st: ∀pre x post ρ,xs=pre++x::post->I pre ρ->∃fl ρ',body (ρ.set i (some (.val (cD x))))=some (fl,ρ')/\(fl= .nx\/fl= .ct)/\I (pre++[x]) ρ'):
  ∃ρ',zeA i body (xs.map cD) ρ=some (.nx,ρ')/\I xs ρ':=by
 obtain⟨fl,ρ',e,h⟩:=zg8 (i:=i) (body:=body) I (fun _ _=>False) (xs:=xs) (ρ:=ρ) h0 fun pre x post ρ e h=>by
  obtain⟨fl,ρ',h1,h2,h3⟩:=st pre x post ρ e h
  exact⟨fl,ρ',h1,.inl ⟨h2,h3⟩⟩
 rcases h with ⟨rfl,h⟩|⟨_,_,z⟩
 ·exact⟨ρ',e,h⟩
 ·exact z.elim
noncomputable def zAk(k:Option (List D)):Option (Option SV)->Option (List D)
 |some (some (.io d))=>k.map (d:: ·)
 |_=>none
@[simp] theorem zzm{k:Option (List D)}{d:D}:zAk k (some (some (.io d)))=k.map (d:: ·):=id rfl
@[simp] theorem zs4{ρ:Env}:zcy ρ []=some []:=by rw[zcy]
@[simp] theorem zsk{ρ:Env}{i:Nat}{r:List Nat}:zcy ρ (i::r)=zAk (zcy ρ r) ρ[i]? :=by
 rw[zcy]
 rcases ρ[i]? with _|_|(_|_|_)<;>rfl
@[simp] theorem zzn{io:List Nat}{r:SV}{ρ:Env}:zoX io (some (.rt r,ρ))=(zcy ρ io).map (Ans.ok r):=id rfl
@[simp] theorem zzo{io:List Nat}{ρ:Env}:zoX io (some (.nx,ρ))=(zcy ρ io).map (Ans.ok (.val .non)):=id rfl
noncomputable def tD(tr:List zaj):D:=.dct true (tr.map cD) (tr.map fun _=>.bl true)
@[simp] theorem zvC{tr:List zaj}:zbr (tr.map fun _=>(.bl true:D))=true:=by
 induction tr with
 |nil=>simp
 |cons x r ih=>simpa using ih
@[simp] theorem zxH{tr:List zaj}:zgt (tD tr)=true:=by simp[tD]
@[simp] theorem zvD{tr:List zaj}:zbU (tD tr)=true:=by simp[tD]
@[simp] theorem zAl{c:zaj}{tr:List zaj}:zai .nin [cD c,tD tr]=some (.val (.bl (!decide (c∈tr)))):=by
 simp only[tD,zai,zry,zg7,if_true,zeR,zd8]
theorem zsl{tr:List zaj}{c:zaj}(h:c∉tr):zkO true (tr.map cD) (tr.map fun _=>.bl true) (cD c) (.bl true)=tD (tr++[c]):=by
 unfold zkO
 rw[zd8]
 simp[h,tD]
section
variable (f:List zaj) (l:zaj)
noncomputable def nb(c:zaj):List zaj:=f.filter (zeZ l c)
structure Half (ms:Ms):Prop where
 nd:zjk ms
 inF: ∀x y,get ms x=some y->x∈f/\y∈f/\zeZ l x y=true
structure Match (ms:Ms):Prop extends Half f l ms where
 sym: ∀x y,get ms x=some y->get ms y=some x
noncomputable def zcm(ms:Ms)(T:zaj->Prop):Prop:=∀y,T y->∃x,get ms y=some x/\∀o∈nb f l x,T o
structure Fail (ms:Ms)(c:zaj)(tr tr':List zaj):Prop where
 all: ∀o∈nb f l c,o∈tr'
 cl: ∀y∈tr',y∉tr->∃x,get ms y=some x/\∀o∈nb f l x,o∈tr'
structure Succ (ms ms':Ms)(c:zaj)(tr:List zaj):Prop where
 half:Half f l ms'
 left: ∀x y,hue l x=0->get ms' x=some y->get ms' y=some x
 right: ∀x y,hue l y=1->get ms c≠some y->get ms' y=some x->get ms' x=some y
 old: ∀y∈tr,hue l y=1->get ms' y=get ms y
 own: ∃y,get ms' c=some y/\y∉tr
 keep: ∀x,hue l x=0->x≠c->(get ms x=none\/∃y∈tr,get ms x=some y)->get ms' x=get ms x
 dom: ∀x,(get ms x).isSome=true->(get ms' x).isSome=true
 closed: ∀T,zcm f l ms T->∀y,hue l y=1->T y->get ms' y=get ms y
 dead: ∀T,zcm f l ms T->¬ ∀o∈nb f l c,T o
end
section
variable {f:List zaj} {l:zaj}
theorem zcn{c o:zaj}:o∈nb f l c↔o∈f/\zeZ l c o=true:=by unfold nb;exact List.mem_filter
theorem Half.len{ms:Ms}(h:Half f l ms):ms.length<=f.length:=by
 have:=zbo (l:=ms.map fun (p:zaj×zaj)=>p.1) (m:=f) h.nd fun x hx=>by
  have:(get ms x).isSome=true:=by rw[zb5];simpa using hx
  obtain⟨y,hy⟩:=Option.isSome_iff_exists.mp this
  exact (h.inF x y hy).1
 simpa using this
theorem Half.put2{ms:Ms}(h:Half f l ms){c o:zaj}(hc:c∈f)(ho:o∈f)(hn:zeZ l c o=true):Half f l (put (put ms c o) o c):=by
 refine⟨zjl (zjl h.nd),fun x y e=>?_⟩
 rw[zeJ,zeJ] at e
 split at e
 ·cases e;rename_i z;subst z;exact⟨ho,hc,by rw[zc3];exact hn⟩
 ·split at e
  ·cases e;rename_i z;subst z;exact⟨hc,ho,hn⟩
  ·exact h.inF x y e
theorem zoh(hl:OkL l){ms:Ms}(hm:Match f l ms){c o:zaj}{tr:List zaj}(hc:c∈f)(h0:hue l c=0)(ho:o∈nb f l c)(hfree:get ms o=none)(hot:o∉tr):
  Succ f l ms (put (put ms c o) o c) c tr:=by
 rw[zcn] at ho
 have h1:hue l o=1:=by
  have:=zbY hl ho.2
  rcases zcc (l:=l) o with z|z
  ·rw[z] at this;exact absurd h0 this
  ·exact z
 have hne:c≠o:=fun e=>by rw[e] at h0;omega
 have g: ∀x,get (put (put ms c o) o c) x=if x=o then some c else if x=c then some o else get ms x:=fun x=>by rw[zeJ,zeJ]
 refine⟨hm.put2 hc ho.1 ho.2,fun x y hx e=>?_,fun x y hy hcy e=>?_,fun y hy hh=>?_,⟨o,by rw[g,if_neg hne,if_pos rfl],hot⟩,fun x hx hxc _=>?_,fun x hx=>?_,fun T hT y hy hTy=>?_,fun T hT hall=>?_⟩
 ·rw[g] at e⊢
  split at e
  ·rename_i z;subst z;omega
  ·split at e
   ·rename_i z;cases e;rw[if_pos rfl,z]
   ·have:=hm.sym x y e
    rw[if_neg,if_neg,this]
    ·intro z;subst z;rw[hm.sym _ _ this] at e;rename_i q _;exact (by
      have e2:=(hm.inF _ _ this).2.2
      have:=zbY hl e2
      omega)
    ·intro z;subst z;rw[hfree] at this;cases this
 ·rw[g] at e⊢
  split at e
  ·rename_i z;cases e;subst z;rw[if_neg hne,if_pos rfl]
  ·split at e
   ·rename_i z;subst z;omega
   ·have:=hm.sym y x e
    rw[if_neg,if_neg,this]
    ·intro z;subst z;rename_i q1 q2;exact hcy this
    ·intro z;subst z;rw[hfree] at this;cases this
 ·rw[g,if_neg (fun z=>by subst z;exact hot hy),if_neg (fun z=>by subst z;omega)]
 ·rw[g,if_neg (fun z=>by subst z;omega),if_neg hxc]
 ·rw[g];split
  ·rfl
  ·split
   ·rfl
   ·exact hx
 ·rw[g,if_neg,if_neg]
  ·intro z;subst z;omega
  ·intro z;subst z
   obtain⟨x,e,_⟩:=hT _ hTy
   rw[hfree] at e;cases e
 ·obtain⟨x,e,_⟩:=hT _ (hall o (zcn.mpr ho))
  rw[hfree] at e;cases e
theorem zpZ(hl:OkL l){ms ms':Ms}(hm:Match f l ms){c o c':zaj}{tr tr1:List zaj}(hc:c∈f)(h0:hue l c=0)(hcm:get ms c=none\/∃y∈tr,get ms c=some y)(ho:o∈nb f l c)(hoc:get ms o=some c')(hot:o∉tr)(ht: ∀y∈tr,y∈tr1)(hot1:o∈tr1)(hS:Succ f l ms ms' c' tr1):
  Succ f l ms (put (put ms' c o) o c) c tr:=by
 rw[zcn] at ho
 have h1:hue l o=1:=by
  have:=zbY hl ho.2
  rcases zcc (l:=l) o with z|z
  ·rw[z] at this;exact absurd h0 this
  ·exact z
 have hc'o:=hm.sym o c' hoc
 have h0':hue l c'=0:=by
  have:=zbY hl (hm.inF _ _ hoc).2.2
  rcases zcc (l:=l) c' with z|z
  ·exact z
  ·rw[h1,z] at this;exact absurd rfl this
 have hne:c≠o:=fun e=>by rw[e] at h0;omega
 have hcc':c≠c':=fun e=>by
  subst e
  rcases hcm with z|⟨y,hy,z⟩
  ·rw[hc'o] at z;cases z
  ·rw[hc'o] at z;cases z;exact hot hy
 have hmo:get ms' o=some c':=by rw[hS.old o hot1 h1];exact hoc
 have hmc:get ms' c=get ms c:=hS.keep c h0 hcc' (hcm.imp id fun ⟨y,hy,z⟩=>⟨y,ht y hy,z⟩)
 obtain⟨y1,hy1,hy1t⟩:=hS.own
 have hy1o:y1≠o:=fun e=>hy1t (by rw[e];exact hot1)
 have g: ∀x,get (put (put ms' c o) o c) x=if x=o then some c else if x=c then some o else get ms' x:=fun x=>by rw[zeJ,zeJ]
 refine⟨hS.half.put2 hc ho.1 ho.2,fun x y hx e=>?_,fun x y hy hcy e=>?_,fun y hy hh=>?_,⟨o,by rw[g,if_neg hne,if_pos rfl],hot⟩,fun x hx hxc hxm=>?_,fun x hx=>?_,fun T hT y hy hTy=>?_,fun T hT hall=>?_⟩
 ·rw[g] at e⊢
  split at e
  ·rename_i z;subst z;omega
  ·split at e
   ·rename_i z;cases e;rw[if_pos rfl,z]
   ·rename_i z1 z2
    have e2:=hS.left x y hx e
    have hyh:hue l y=1:=by
     have:=zbY hl (hS.half.inF _ _ e).2.2
     rcases zcc (l:=l) y with z|z
     ·rw[hx,z] at this;exact absurd rfl this
     ·exact z
    rw[if_neg,if_neg,e2]
    ·intro z;subst z;omega
    ·intro z;subst z
     rw[hmo] at e2
     cases e2
     rw[hy1] at e;cases e
     exact hy1o rfl
 ·rw[g] at e⊢
  split at e
  ·rename_i z;cases e;subst z;rw[if_neg hne,if_pos rfl]
  ·split at e
   ·rename_i z;subst z;omega
   ·rename_i z1 z2
    have e2:=hS.right x y hy (fun z=>by rw[hc'o] at z;cases z;exact z1 rfl) e
    rw[if_neg,if_neg,e2]
    ·intro z;subst z
     rw[hmc] at e2
     exact hcy e2
    ·intro z;subst z
     have:=zbY hl (hS.half.inF _ _ e).2.2
     omega
 ·rw[g,if_neg (fun z=>by subst z;exact hot hy),if_neg (fun z=>by subst z;omega)]
  exact hS.old y (ht y hy) hh
 ·rw[g,if_neg (fun z=>by subst z;omega),if_neg hxc]
  refine hS.keep x hx (fun z=>?_) (hxm.imp id fun ⟨y,hy,z⟩=>⟨y,ht y hy,z⟩)
  subst z
  rcases hxm with z|⟨y,hy,z⟩
  ·rw[hc'o] at z;cases z
  ·rw[hc'o] at z;cases z;exact hot hy
 ·rw[g];split
  ·rfl
  ·split
   ·rfl
   ·exact hS.dom x hx
 ·rw[g,if_neg,if_neg]
  ·exact hS.closed T hT y hy hTy
  ·intro z;subst z;omega
  ·intro z;subst z
   obtain⟨x,e,hx⟩:=hT _ hTy
   rw[hoc] at e;cases e
   exact hS.dead T hT hx
 ·obtain⟨x,e,hx⟩:=hT _ (hall o (zcn.mpr ho))
  rw[hoc] at e;cases e
  exact hS.dead T hT hx
@[simp] theorem zzp{c:zaj}:zkQ (.val (cD c))=some (.e (cD c)):=by simp[cD]
@[simp] theorem zzq{g:List zaj}:zkQ (.val (fD g))=some (.e (fD g)):=by simp[fD]
noncomputable def fmE(f:List zaj)(l:zaj)(ms:Ms)(c:zaj)(tr:List zaj)(o:Option SV):Env:=[some (.val (fD f)),some (.val (cD l)),some (.io (dD ms)),some (.val (cD c)),some (.io (tD tr)),o]
noncomputable def unt(f tr:List zaj):Nat:=(f.filter fun c=>decide (c∉tr)).length
theorem zvE{tr:List zaj}{o:zaj}(ho:o∈f)(ht:o∉tr):unt f (tr++[o])<unt f tr:=by
 unfold unt
 have key: ∀g:List zaj,(g.filter fun c=>decide (c∉tr++[o])).length<=(g.filter fun c=>decide (c∉tr)).length/\(o∈g->(g.filter fun c=>decide (c∉tr++[o])).length<(g.filter fun c=>decide (c∉tr)).length):=by
  intro g
  induction g with
  |nil=>exact⟨Nat.le_refl _,fun h=>by cases h⟩
  |cons x r ih=>
   by_cases hx:x=o
   ·subst hx
    have a1:decide (x∉tr++[x])=false:=by simp
    have a2:decide (x∉tr)=true:=by simpa using ht
    rw[List.filter_cons,List.filter_cons,a1,a2]
    simp only[Bool.false_eq_true,if_false,if_true,List.length_cons]
    exact⟨by omega,fun _=>by omega⟩
   ·have a1:decide (x∉tr++[o])=decide (x∉tr):=by simp[hx]
    rw[List.filter_cons,List.filter_cons,a1]
    split
    ·simp only[List.length_cons]
     refine⟨by omega,fun h=>?_⟩
     rcases List.mem_cons.mp h with z|z
     ·exact absurd z.symm hx
     ·have:=ih.2 z;omega
    ·refine⟨ih.1,fun h=>?_⟩
     rcases List.mem_cons.mp h with z|z
     ·exact absurd z.symm hx
     ·exact ih.2 z
 exact (key f).2 ho
theorem zp0{tr tr':List zaj}(h: ∀y∈tr,y∈tr'):unt f tr'<=unt f tr:=by
 unfold unt
 have key: ∀g:List zaj,(g.filter fun c=>decide (c∉tr')).length<=(g.filter fun c=>decide (c∉tr)).length:=by
  intro g
  induction g with
  |nil=>exact Nat.le_refl _
  |cons x r ih=>
   rw[List.filter_cons,List.filter_cons]
   by_cases h1:x∈tr
   ·have h2:=h x h1
    simp only[h1,h2,not_true,decide_false,Bool.false_eq_true,if_false];exact ih
   ·by_cases h2:x∈tr'
    ·simp only[h1,h2,not_true,not_false_iff,decide_false,decide_true,Bool.false_eq_true,if_false,if_true,List.length_cons];omega
    ·simp only[h1,h2,not_false_iff,decide_true,if_true,List.length_cons];omega
 exact key f
theorem zvF(f tr:List zaj):unt f tr<=f.length:=List.length_filter_le _ _
structure TrOk (f tr:List zaj):Prop where
 nd:tr.Nodup
 sub: ∀x∈tr,x∈f
theorem TrOk.len{tr:List zaj}(h:TrOk f tr):tr.length<=f.length:=zbo h.nd h.sub
theorem TrOk.snoc{tr:List zaj}{o:zaj}(h:TrOk f tr)(ho:o∈f)(ht:o∉tr):TrOk f (tr++[o]):=by
 refine⟨?_,fun x hx=>?_⟩
 ·rw[List.nodup_append]
  refine⟨h.nd,by simp,fun a ha b hb e=>?_⟩
  simp at hb;subst hb;subst e;exact ht ha
 ·rw[List.mem_append,List.mem_singleton] at hx
  rcases hx with z|rfl
  ·exact h.sub x z
  ·exact ho
structure FM (f:List zaj)(l:zaj)(n:Nat)(ms:Ms)(c:zaj)(tr:List zaj)(b:Bool)(ms':Ms)(tr':List zaj):Prop where
 eq:zaq U zat n 37 [fD f,cD l,dD ms,cD c,tD tr]=some (.ok (.val (.bl b)) [dD ms',tD tr'])
 tr_: ∀y∈tr,y∈tr'
 ok:TrOk f tr'
 no:b=false->ms'=ms/\Fail f l ms c tr tr'
 yes:b=true->Succ f l ms ms' c tr
theorem zsm(n:Nat)(hl:OkL l)(hf:f.length<=100){ms:Ms}(hm:Match f l ms){c o:zaj}{tr:List zaj}{o':Option SV}(ht:TrOk f tr)(hc:c∈f)(h0:hue l c=0)(ho:o∈nb f l c)
  (hrec: ∀c',get ms o=some c'->o∉tr->∃b ms' tr',FM f l n ms c' (tr++[o]) b ms' tr'):
  (o∈tr/\zaR (zaq U zat n) zat zeW (fmE f l ms c tr (some (.val (cD o))))=some (.nx,fmE f l ms c tr (some (.val (cD o)))))\/
  (o∉tr/\get ms o=none/\zaR (zaq U zat n) zat zeW (fmE f l ms c tr (some (.val (cD o))))=some (.rt (.val (.bl true)),fmE f l (put (put ms c o) o c) c (tr++[o]) (some (.val (cD o)))))\/
  (o∉tr/\∃c' ms' tr' b,get ms o=some c'/\FM f l n ms c' (tr++[o]) b ms' tr'/\zaR (zaq U zat n) zat zeW (fmE f l ms c tr (some (.val (cD o))))=
   some (if b then (.rt (.val (.bl true)),fmE f l (put (put ms' c o) o c) c tr' (some (.val (cD o)))) else (.nx,fmE f l ms' c tr' (some (.val (cD o)))))):=by
 have hl':=zbl
 have hml:=hm.len
 have htl:=ht.len
 by_cases hot:o∈tr
 ·refine .inl ⟨hot,?_⟩
  simp[zeW,fmE,hot]
 ·have hk1:decide (tr.length<line)=true:=by simp;omega
  have hT: ∀g:D,tD tr= .dct true (tr.map cD) (tr.map fun _=>.bl true):=fun _=>rfl
  have hD: ∀ms:Ms,dD ms= .dct true (ms.map fun p=>cD p.1) (ms.map fun p=>cD p.2):=fun _=>rfl
  have e1: ∀ρ:Env,zn1 ρ 4 (some (.val (cD o))) (some (.val (.bl true))) (some (some (.io (tD tr))))=some (.nx,ρ.set 4 (some (.io (tD (tr++[o]))))):=fun ρ=>by
   rw[tD,zlf]
   simp only[Option.bind_some,zkn,zg7,List.length_map,hk1,Bool.and_self,if_true,zsl hot]
  have e2: ∀(ρ:Env) (i:Nat) (ms:Ms) (a b:zaj),ms.length<line->zn1 ρ i (some (.val (cD a))) (some (.val (cD b))) (some (some (.io (dD ms))))=some (.nx,ρ.set i (some (.io (dD (put ms a b))))):=fun ρ i ms a b h=>by
   rw[dD,zlf]
   simp only[Option.bind_some,zkn,zg7,List.length_map,h,decide_true,Bool.and_self,if_true,zsj]
  cases hg:get ms o with
  |none=>
   refine .inr (.inl ⟨hot,rfl,?_⟩)
   have p1:=zof ms c o
   simp[zeW,fmE,hot,e1,hg]
   rw[e2 _ 2 ms c o (by omega)]
   simp
   rw[e2 _ 2 (put ms c o) o c (by omega)]
   simp
  |some c'=>
   obtain⟨b,ms',tr',hr⟩:=hrec c' hg hot
   refine .inr (.inr ⟨hot,c',ms',tr',b,rfl,hr,?_⟩)
   have heq:=hr.eq
   simp[zeW,fmE,hot,e1,hg,zjj hg,heq]
   cases b with
   |true=>
    have p0:=(hr.yes rfl).half.len
    have p1:=zof ms' c o
    simp
    rw[e2 _ 2 ms' c o (by omega)]
    simp
    rw[e2 _ 2 (put ms' c o) o c (by omega)]
    simp
   |false=>simp
theorem za1(hl:OkL l){a b:zaj}(h:zeZ l a b=true):(hue l a=0->hue l b=1)/\(hue l a=1->hue l b=0):=by
 have:=zbY hl h
 have h1:=zcc (l:=l) a
 have h2:=zcc (l:=l) b
 omega
theorem zzr(hl:OkL l)(hf:OkF f){ms:Ms}(hm:Match f l ms): ∀(u:Nat) (c:zaj) (tr:List zaj) (n:Nat),unt f tr<u->u+3<=n->TrOk f tr->c∈f->hue l c=0->(get ms c=none\/∃y∈tr,get ms c=some y)->∃b ms' tr',FM f l n ms c tr b ms' tr':=by
 intro u
 induction u with
 |zero=>intro c tr n hu;omega
 |succ u ih=>
  intro c tr n hu hn ht hc h0 hcm
  obtain⟨m,rfl⟩: ∃m,n=m+4:=⟨n-4,by omega⟩
  have hlen:=hf.len
  obtain⟨fl,ρ',hx,hq⟩:=zg8 (i:=5) (body:=zaR (zaq U zat (m+3)) zat zeW)
   (fun pre ρ=>∃tr' o',ρ=fmE f l ms c tr' o'/\(∀y∈tr,y∈tr')/\TrOk f tr'/\(∀o∈pre,o∈tr')/\(∀y∈tr',y∉tr->∃x,get ms y=some x/\∀o∈nb f l x,o∈tr'))
   (fun r ρ=>∃ms' tr' o',r= .val (.bl true)/\ρ=fmE f l ms' c tr' o'/\(∀y∈tr,y∈tr')/\TrOk f tr'/\Succ f l ms ms' c tr)
   (xs:=nb f l c) (ρ:=fmE f l ms c tr none) ⟨tr,none,rfl,fun _ h=>h,ht,fun _ h=>(by cases h),fun y h1 h2=>absurd h1 h2⟩
   fun pre o post ρ e zz5=>by
    obtain⟨tr',o',eρ,s1,s2,s3,s4⟩:=zz5
    subst eρ
    have ho:o∈nb f l c:=by rw[e];simp
    have hof:=(zcn.mp ho).1
    have hrec: ∀c',get ms o=some c'->o∉tr'->∃b ms' tr'',FM f l (m+3) ms c' (tr'++[o]) b ms' tr'':=fun c' hg hot=>by
     have h1:=zvE (tr:=tr') hof hot
     have h2:=zp0 (f:=f) s1
     obtain⟨g1,g2,g3⟩:=hm.inF o c' hg
     have hh:=(za1 hl (zcn.mp ho).2).1 h0
     exact ih c' (tr'++[o]) (m+3) (by omega) (by omega) (s2.snoc hof hot) g2 ((za1 hl g3).2 hh) (.inr ⟨o,by simp,hm.sym _ _ hg⟩)
    rcases zsm (m+3) hl (by omega) hm (o':=o') s2 hc h0 ho hrec with ⟨hot,ex⟩|⟨hot,hg,ex⟩|⟨hot,c',ms',tr'',b,hg,hF,ex⟩
    ·refine⟨_,_,ex,.inl ⟨.inl rfl,tr',_,rfl,s1,s2,fun x hx=>?_,s4⟩⟩
     rw[List.mem_append,List.mem_singleton] at hx
     rcases hx with z|rfl
     ·exact s3 x z
     ·exact hot
    ·refine⟨_,_,ex,.inr ⟨_,rfl,_,_,_,rfl,rfl,fun y hy=>List.mem_append_left _ (s1 y hy),s2.snoc hof hot,zoh hl hm hc h0 ho hg fun z=>hot (s1 o z)⟩⟩
    ·have sub: ∀y∈tr',y∈tr'':=fun y hy=>hF.tr_ y (List.mem_append_left _ hy)
     have hoT:o∈tr'':=hF.tr_ o (by simp)
     cases b with
     |true=>
      refine⟨_,_,ex,.inr ⟨_,rfl,_,_,_,rfl,rfl,fun y hy=>sub y (s1 y hy),hF.ok,?_⟩⟩
      exact zpZ hl hm hc h0 hcm ho hg (fun z=>hot (s1 o z)) (fun y hy=>List.mem_append_left _ (s1 y hy)) (by simp) (hF.yes rfl)
     |false=>
      obtain⟨rfl,hFl⟩:=hF.no rfl
      refine⟨_,_,ex,.inl ⟨.inl rfl,tr'',_,rfl,fun y hy=>sub y (s1 y hy),hF.ok,fun x hx=>?_,fun y hy hyt=>?_⟩⟩
      ·rw[List.mem_append,List.mem_singleton] at hx
       rcases hx with z|rfl
       ·exact sub x (s3 x z)
       ·exact hoT
      ·by_cases h1:y∈tr'
       ·obtain⟨x,e1,e2⟩:=s4 y h1 hyt
        exact⟨x,e1,fun o ho=>sub o (e2 o ho)⟩
       ·by_cases h2:y=o
        ·subst h2;exact⟨c',hg,hFl.all⟩
        ·exact hFl.cl y hy fun z=>by
          rw[List.mem_append,List.mem_singleton] at z
          rcases z with z|z
          ·exact h1 z
          ·exact h2 z
  have cn:=zd7 m l c (f:=f) (by omega:f.length<=1000)
  have run:zaq U zat (m+4) 37 [fD f,cD l,dD ms,cD c,tD tr]=zoX [2,4] ((some (fl,ρ')).bind fun x=>andThen x (zaR (zaq U zat (m+3)) zat (.cons (.ret (.bl false)) .nil))):=by
   rw[zl1 U37 rfl]
   show zoX [2,4] (zaR (zaq U zat (m+3)) zat zs1 (fmE f l ms c tr none))=_
   simp only[zs1,zcA,zdO]
   simp[fmE,cn]
   rw[<-fmE,<-nb,hx]
   simp
  rcases hq with ⟨rfl,tr',o',rfl,s1,s2,s3,s4⟩|⟨r,rfl,ms',tr',o',rfl,rfl,s1,s2,s3⟩
  ·refine⟨false,ms,tr',⟨?_,s1,s2,fun _=>⟨rfl,s3,s4⟩,fun z=>(by cases z)⟩⟩
   rw[run]
   simp[fmE]
  ·refine⟨true,ms',tr',⟨?_,s1,s2,fun z=>(by cases z),fun _=>s3⟩⟩
   rw[run]
   simp[fmE]
end
end LK
namespace LK
open L2.LW
section
variable {f:List zaj} {l:zaj}
theorem zhK(hf:OkF f):f.Nodup:=OkF.nodup hf.rise
structure Final (f:List zaj)(l:zaj)(ms:Ms)(T:zaj->Prop):Prop extends Match f l ms where
 cl:zcm f l ms T
 free: ∀x∈f,hue l x=0->get ms x=none->∀o∈nb f l x,T o
 side: ∀y,T y->hue l y=1
theorem zl7(hl:OkL l){ms ms':Ms}{c:zaj}(hm:Match f l ms)(hg:get ms c=none)(h:Succ f l ms ms' c []):Match f l ms':=by
 refine { h.half with sym:=fun x y e=>?_ }
 rcases zcc (l:=l) x with z|z
 ·exact h.left x y z e
 ·exact h.right y x z (by rw[hg];exact fun z=>nomatch z) e
noncomputable def amE(f:List zaj)(l:zaj)(ms:Ms)(o:Option SV):Env:=[some (.val (fD f)),some (.val (cD l)),some (.obj true (dD ms)),o]
theorem ze0(n:Nat)(hl:OkL l)(hf:OkF f): ∃ms T,Final f l ms T/\za7 U zat (n+29) 38 [fD f,cD l]=some (.obj true (dD ms)):=by
 have hlen:=hf.len
 obtain⟨ρ',hx,ms,T,o',rfl,hm,hT,hfr,hsd,hin⟩:=zdQ (i:=3) (body:=zaR (zaq U zat (n+28)) zat zll)
  (fun pre ρ=>∃ms T o',ρ=amE f l ms o'/\Match f l ms/\zcm f l ms T/\(∀x∈pre,get ms x=none->∀o∈nb f l x,T o)/\(∀y,T y->hue l y=1)/\∀x,hue l x=0->(get ms x).isSome=true->x∈pre)
  (xs:=f.filter fun c=>decide (hue l c=0)) (ρ:=amE f l [] none) ⟨[],fun _=>False,none,rfl,⟨⟨by simp[zjk],fun x y e=>by cases e⟩,fun x y e=>by cases e⟩,fun y z=>z.elim,fun x h=>(by cases h),fun y z=>z.elim,fun x _ h=>(by cases h)⟩
  fun pre c post ρ e zz5=>by
   obtain⟨ms,T,o',eρ,hm,hT,hfr,hsd,hin⟩:=zz5
   subst eρ
   have hc:c∈f.filter fun c=>decide (hue l c=0):=by rw[e];simp
   rw[List.mem_filter,decide_eq_true_iff] at hc
   have hnd:(f.filter fun c=>decide (hue l c=0)).Nodup:=(zhK hf).sublist List.filter_sublist
   have hcm:get ms c=none:=by
    cases q:get ms c with
    |none=>rfl
    |some y=>
     have hp:=hin c hc.2 (by rw[q];rfl)
     rw[e,List.nodup_append] at hnd
     exact absurd rfl (hnd.2.2 c hp c List.mem_cons_self)
   ·obtain⟨b,ms',tr',hF⟩:=zzr hl hf hm (f.length+1) c [] (n+28) (by have:=zvF f [];omega) (by omega) ⟨by simp,fun x h=>by cases h⟩ hc.1 hc.2 (.inl hcm)
    have heq:=hF.eq
    have ex:zaR (zaq U zat (n+28)) zat zll ((amE f l ms o').set 3 (some (.val (cD c))))=some (.nx,amE f l ms' (some (.val (cD c)))):=by
     rw[show tD []= .dct true [] [] from rfl] at heq
     simp[zll,amE,heq]
    refine⟨_,_,ex,.inl rfl,?_⟩
    cases b with
    |true=>
     have hS:=hF.yes rfl
     refine⟨ms',T,_,rfl,zl7 hl hm hcm hS,fun y hy=>?_,fun x hx hxm o ho=>?_,hsd,fun x hx0 hx1=>?_⟩
     ·obtain⟨x,e1,e2⟩:=hT y hy
      exact⟨x,by rw[hS.closed T hT y (hsd y hy) hy];exact e1,e2⟩
     ·rw[List.mem_append,List.mem_singleton] at hx
      rcases hx with z|rfl
      ·refine hfr x z ?_ o ho
       cases q:get ms x with
       |none=>rfl
       |some y=>have:=hS.dom x (by rw[q];rfl);rw[hxm] at this;cases this
      ·obtain⟨y,e1,_⟩:=hS.own
       rw[hxm] at e1;cases e1
     ·by_cases z:x=c
      ·subst z;simp
      ·cases q:get ms x with
       |none=>rw[hS.keep x hx0 z (.inl q),q] at hx1;cases hx1
       |some y=>exact List.mem_append_left _ (hin x hx0 (by rw[q];rfl))
    |false=>
     obtain⟨rfl,hFl⟩:=hF.no rfl
     have side': ∀y∈tr',hue l y=1->True:=fun _ _ _=>trivial
     refine⟨ms',fun y=>T y\/(y∈tr'/\hue l y=1),_,rfl,hm,fun y hy=>?_,fun x hx hxm o ho=>?_,fun y hy=>hy.elim (hsd y) And.right,fun x h0 h1=>List.mem_append_left _ (hin x h0 h1)⟩
     ·rcases hy with hy|⟨hy,hy1⟩
      ·obtain⟨x,e1,e2⟩:=hT y hy
       exact⟨x,e1,fun o ho=>.inl (e2 o ho)⟩
      ·obtain⟨x,e1,e2⟩:=hFl.cl y hy (by simp)
       refine⟨x,e1,fun o ho=>.inr ⟨e2 o ho,?_⟩⟩
       have h0:=(za1 hl (hm.inF _ _ e1).2.2).2 hy1
       exact (za1 hl (zcn.mp ho).2).1 h0
     ·rw[List.mem_append,List.mem_singleton] at hx
      rcases hx with z|rfl
      ·exact .inl (hfr x z hxm o ho)
      ·exact .inr ⟨hFl.all o ho,(za1 hl (zcn.mp ho).2).1 hc.2⟩
 refine⟨ms,T,{ hm with cl:=hT,free:=fun x hxf h0=>hfr x (by rw[List.mem_filter];exact⟨hxf,by simpa using h0⟩),side:=hsd },?_⟩
 have ch:=zc4 (n+24) hl (f:=f) (by omega) 0
 rw[zay U38 rfl]
 simp only[zvr]
 simp[zdO,ch]
 have hx':=hx
 simp only[amE] at hx'
 rw[show D.dct true [] []=dD [] from rfl,hx']
 simp
end
end LK
namespace LK
open L2.LW
theorem zc5{α β:Type}{g:α->β}: ∀{l:List α},(∀x∈l,∀y∈l,g x=g y->x=y)->l.Nodup->(l.map g).Nodup
 |[],_,_=>by simp
 |x::r,h,hn=>by
  rw[List.nodup_cons] at hn
  rw[List.map_cons,List.nodup_cons]
  refine⟨fun z=>?_,zc5 (fun a ha b hb=>h a (List.mem_cons_of_mem _ ha) b (List.mem_cons_of_mem _ hb)) hn.2⟩
  rw[List.mem_map] at z
  obtain⟨y,hy,e⟩:=z
  have:=h y (List.mem_cons_of_mem _ hy) x List.mem_cons_self e
  subst this
  exact hn.1 hy
theorem zcB{α β:Type}[DecidableEq β]{l:List α}{m:List β}(g:α->β)(hn:l.Nodup)(hm: ∀x∈l,g x∈m)(hi: ∀x∈l,∀y∈l,g x=g y->x=y):l.length<=m.length:=by
 have:=zbo (l:=l.map g) (m:=m) (zc5 hi hn) fun y hy=>by
  rw[List.mem_map] at hy
  obtain⟨x,hx,rfl⟩:=hy
  exact hm x hx
 simpa using this
section
variable {f:List zaj} {l:zaj}
noncomputable def ze1(ms:Ms)(c:zaj):zaj:=(get ms c).getD c
theorem zaG{ms:Ms}{c v:zaj}(h:get ms c=some v):ze1 ms c=v:=by unfold ze1;rw[h];rfl
noncomputable def ml(f:List zaj)(l:zaj)(ms:Ms):List zaj:=f.filter fun c=>decide (hue l c=0)&&(get ms c).isSome
theorem zco{ms:Ms}{c:zaj}:c∈ml f l ms↔c∈f/\hue l c=0/\∃v,get ms c=some v:=by
 unfold ml
 rw[List.mem_filter,Bool.and_eq_true,decide_eq_true_iff,Option.isSome_iff_exists]
theorem zhL{ms:Ms}(h:f.Nodup):(ml f l ms).Nodup:=h.sublist List.filter_sublist
structure IsCover (f:List zaj)(l:zaj)(C:List zaj):Prop where
 nd:C.Nodup
 sub: ∀x∈C,x∈f
 hit: ∀a∈f,∀b∈f,zeZ l a b=true->a∈C\/b∈C
theorem Match.inj{ms:Ms}(h:Match f l ms){a b v:zaj}(ha:get ms a=some v)(hb:get ms b=some v):a=b:=by
 have h1:=h.sym _ _ ha
 have h2:=h.sym _ _ hb
 rw[h1] at h2
 exact Option.some.inj h2
theorem zAm(hl:OkL l)(hn:f.Nodup){ms:Ms}(hm:Match f l ms){C:List zaj}(hC:IsCover f l C):(ml f l ms).length<=C.length:=by
 refine zcB (fun x=>if x∈C then x else ze1 ms x) (zhL hn) (fun x hx=>?_) fun x hx y hy e=>?_
 ·obtain⟨h1,h2,v,h3⟩:=zco.mp hx
  show (if x∈C then x else ze1 ms x)∈C
  split
  ·assumption
  ·rw[zaG h3]
   obtain⟨_,g2,g3⟩:=hm.inF _ _ h3
   exact (hC.hit x h1 v g2 g3).resolve_left (by assumption)
 ·obtain⟨h1,h2,v,h3⟩:=zco.mp hx
  obtain⟨h1',h2',v',h3'⟩:=zco.mp hy
  have q:=(za1 hl (hm.inF _ _ h3).2.2).1 h2
  have q':=(za1 hl (hm.inF _ _ h3').2.2).1 h2'
  simp only[zaG h3,zaG h3'] at e
  split at e<;>split at e
  ·exact e
  ·subst e;omega
  ·subst e;omega
  ·subst e;exact hm.inj h3 h3'
open Classical in
theorem zqY(hl:OkL l)(hn:f.Nodup){ms:Ms}{T:zaj->Prop}(h:Final f l ms T): ∃C,IsCover f l C/\C.length<=(ml f l ms).length:=by
 let P:zaj->Prop:=fun c=>if hue l c=0 then ¬ ∀o∈nb f l c,T o else T c
 refine⟨f.filter fun c=>decide (P c),⟨hn.sublist List.filter_sublist,fun x hx=>(List.mem_filter.mp hx).1,fun a ha b hb hab=>?_⟩,?_⟩
 ·have key: ∀a∈f,∀b∈f,zeZ l a b=true->hue l a=0->P a\/P b:=fun a ha b hb hab h0=>by
   by_cases hT: ∀o∈nb f l a,T o
   ·right
    show if hue l b=0 then _ else _
    rw[if_neg (by have:=(za1 hl hab).1 h0;omega)]
    exact hT b (zcn.mpr ⟨hb,hab⟩)
   ·left
    show if hue l a=0 then _ else _
    rw[if_pos h0];exact hT
  have wrap: ∀c∈f,P c->c∈f.filter fun c=>decide (P c):=fun c hc hp=>List.mem_filter.mpr ⟨hc,by simpa using hp⟩
  rcases zcc (l:=l) a with z|z
  ·rcases key a ha b hb hab z with q|q
   ·exact .inl (wrap a ha q)
   ·exact .inr (wrap b hb q)
  ·rcases key b hb a ha (by rw[zc3];exact hab) ((za1 hl hab).2 z) with q|q
   ·exact .inr (wrap b hb q)
   ·exact .inl (wrap a ha q)
 ·have in0: ∀c,c∈f.filter (fun c=>decide (P c))->hue l c=0->(¬ ∀o∈nb f l c,T o)/\∃v,get ms c=some v:=fun c hc h0=>by
   rw[List.mem_filter,decide_eq_true_iff] at hc
   have hp:if hue l c=0 then ¬ ∀o∈nb f l c,T o else T c:=hc.2
   rw[if_pos h0] at hp
   refine⟨hp,?_⟩
   cases q:get ms c with
   |none=>exact absurd (h.free c hc.1 h0 q) hp
   |some v=>exact⟨v,rfl⟩
  have in1: ∀c,c∈f.filter (fun c=>decide (P c))->¬hue l c=0->∃v,get ms c=some v/\∀o∈nb f l v,T o:=fun c hc h0=>by
   rw[List.mem_filter,decide_eq_true_iff] at hc
   have hp:if hue l c=0 then ¬ ∀o∈nb f l c,T o else T c:=hc.2
   rw[if_neg h0] at hp
   exact h.cl c hp
  refine zcB (fun c=>if hue l c=0 then c else ze1 ms c) (hn.sublist List.filter_sublist) (fun c hc=>?_) fun c hc d hd e=>?_
  ·show (if hue l c=0 then c else ze1 ms c)∈ml f l ms
   split
   ·rename_i h0
    exact zco.mpr ⟨(List.mem_filter.mp hc).1,h0,(in0 c hc h0).2⟩
   ·rename_i h0
    obtain⟨v,e1,_⟩:=in1 c hc h0
    obtain⟨_,g2,g3⟩:=h.inF _ _ e1
    rw[zaG e1]
    have hc1:hue l c=1:=by have:=zcc (l:=l) c;omega
    exact zco.mpr ⟨g2,(za1 hl g3).2 hc1,c,h.sym _ _ e1⟩
  ·have e:(if hue l c=0 then c else ze1 ms c)=(if hue l d=0 then d else ze1 ms d):=e
   split at e<;>split at e
   ·exact e
   ·rename_i h0 h1
    obtain⟨v,e1,e2⟩:=in1 d hd h1
    rw[zaG e1] at e
    subst e
    exact absurd e2 (in0 c hc h0).1
   ·rename_i h0 h1
    obtain⟨v,e1,e2⟩:=in1 c hc h0
    rw[zaG e1] at e
    subst e
    exact absurd e2 (in0 _ hd h1).1
   ·rename_i h0 h1
    obtain⟨v,e1,_⟩:=in1 c hc h0
    obtain⟨v',e1',_⟩:=in1 d hd h1
    rw[zaG e1,zaG e1'] at e
    subst e
    exact h.inj e1 e1'
theorem zp1(hl:OkL l)(hn:f.Nodup){ms ms':Ms}{T T':zaj->Prop}(h:Final f l ms T)(h':Final f l ms' T'):(ml f l ms).length=(ml f l ms').length:=by
 obtain⟨C,c1,c2⟩:=zqY hl hn h
 obtain⟨C',c1',c2'⟩:=zqY hl hn h'
 have:=zAm hl hn h.toMatch c1'
 have:=zAm hl hn h'.toMatch c1
 omega
noncomputable def prs(f:List zaj)(ms:Ms):List zaj:=f.filter fun c=>match get ms c with
 |some v=>decide (cLt c v)
 |none=>false
theorem zbT{ms:Ms}{c:zaj}:c∈prs f ms↔c∈f/\∃v,get ms c=some v/\cLt c v:=by
 unfold prs
 rw[List.mem_filter]
 cases e:get ms c<;>simp
theorem zoi(hl:OkL l){a b:zaj}(h:zeZ l a b=true):a≠b:=fun e=>by subst e;exact zbY hl h rfl
theorem zsn(hl:OkL l)(hn:f.Nodup){ms:Ms}(h:Match f l ms):(prs f ms).length=(ml f l ms).length:=by
 apply Nat.le_antisymm
 ·refine zcB (fun c=>if hue l c=0 then c else ze1 ms c) (hn.sublist List.filter_sublist) (fun c hc=>?_) fun c hc d hd e=>?_
  ·obtain⟨h1,v,h2,h3⟩:=zbT.mp hc
   obtain⟨_,g2,g3⟩:=h.inF _ _ h2
   show (if hue l c=0 then c else ze1 ms c)∈ml f l ms
   split
   ·exact zco.mpr ⟨h1,by assumption,v,h2⟩
   ·rw[zaG h2]
    have hc1:hue l c=1:=by have:=zcc (l:=l) c;omega
    exact zco.mpr ⟨g2,(za1 hl g3).2 hc1,c,h.sym _ _ h2⟩
  ·obtain⟨h1,v,h2,h3⟩:=zbT.mp hc
   obtain⟨h1',v',h2',h3'⟩:=zbT.mp hd
   simp only[zaG h2,zaG h2'] at e
   split at e<;>split at e
   ·exact e
   ·subst e
    rw[h.sym _ _ h2'] at h2;cases h2
    exact (zc1 h3 h3').elim
   ·subst e
    rw[h.sym _ _ h2] at h2';cases h2'
    exact (zc1 h3 h3').elim
   ·subst e;exact h.inj h2 h2'
 ·refine zcB (fun c=>if cLt c (ze1 ms c) then c else ze1 ms c) (zhL hn) (fun c hc=>?_) fun c hc d hd e=>?_
  ·obtain⟨h1,h2,v,h3⟩:=zco.mp hc
   obtain⟨_,g2,g3⟩:=h.inF _ _ h3
   show (if cLt c (ze1 ms c) then c else ze1 ms c)∈prs f ms
   rw[zaG h3]
   split
   ·exact zbT.mpr ⟨h1,v,h3,by assumption⟩
   ·exact zbT.mpr ⟨g2,c,h.sym _ _ h3,(zfR (zoi hl g3)).resolve_left (by assumption)⟩
  ·obtain⟨h1,h2,v,h3⟩:=zco.mp hc
   obtain⟨h1',h2',v',h3'⟩:=zco.mp hd
   have q:=(za1 hl (h.inF _ _ h3).2.2).1 h2
   have q':=(za1 hl (h.inF _ _ h3').2.2).1 h2'
   simp only[zaG h3,zaG h3'] at e
   split at e<;>split at e
   ·exact e
   ·subst e;omega
   ·subst e;omega
   ·subst e;exact h.inj h3 h3'
noncomputable def zbx(ms:Ms)(c:zaj):D:=.tup [cD c,cD (ze1 ms c)]
theorem zfV(n:Nat)(hf:f.length<=1000){ms:Ms}:za7 U zat (n+1) 39 [fD f,dD ms]=some (.obj true (.lst ((prs f ms).map (zbx ms)))):=by
 rw[zay U39 rfl]
 have hl':=zbl
 simp only[zvs]
 simp
 rw[zbt (rs:=[.val (fD f)]) (xs:=f) (f:=cD) (fun c=>match get ms c with
  |some v=>decide (cLt c v)
  |none=>false) (zbx ms)]
 ·rw[show (f.filter fun c=>match get ms c with
   |some v=>decide (cLt c v)
   |none=>false)=prs f ms from rfl]
  simp
 ·simp
 ·rfl
 ·omega
 ·intro c _
  cases e:get ms c with
  |none=>simp[e]
  |some v=>simp[e,zjj e]
 ·intro c _ h
  cases e:get ms c with
  |none=>simp[e] at h
  |some v=>simp[zjj e,zbx,zaG e]
theorem zhM(n:Nat)(hl:OkL l)(hf:OkF f): ∃ms T,Final f l ms T/\za7 U zat (n+30) 43 [fD f,cD l]=some (.obj true (.lst ((prs f ms).map (zbx ms)))):=by
 have hlen:=hf.len
 obtain⟨ms,T,h1,h2⟩:=ze0 n hl hf
 refine⟨ms,T,h1,?_⟩
 have h3:=zfV (n+28) (f:=f) (ms:=ms) (by omega)
 rw[zay U43 rfl]
 simp[zvu,zg6 (n+25) hf,zc2 (n+26) hl,h2,h3]
end
end LK
namespace LK
open L2.LW
section
variable {f:List zaj} {l:zaj}
noncomputable def caE(f:List zaj)(l:zaj)(ms:Ms)(k:Int)(s4:SV)(ar ed:List zaj)(s7 s8 s9:Option SV):Env:=
 [some (.val (fD f)),some (.val (cD l)),some (.val (dD ms)),some (.val (.int k)),some s4,some (.obj true (lD ar)),some (.val (lD ed)),s7,s8,s9]
structure Ring (f:List zaj)(ms:Ms)(T:zaj->Prop)(ar0 ar fu:List zaj):Prop where
 nd:ar.Nodup
 sub: ∀y∈ar,y∈f/\T y
 new: ∃nw,ar=ar0++nw/\fu=nw.map (ze1 ms)
theorem Ring.len{ms:Ms}{T:zaj->Prop}{ar0 ar fu:List zaj}(h:Ring f ms T ar0 ar fu):ar.length<=f.length/\fu.length<=f.length:=by
 have h1:=zbo h.nd fun y hy=>(h.sub y hy).1
 obtain⟨nw,rfl,rfl⟩:=h.new
 simp at h1⊢
 omega
theorem zso{a:List zaj}{c:zaj}:(D.lst (a.map cD++[cD c]))=lD (a++[c]):=by simp[lD]
theorem zjn{ρ:Env}{i:Nat}{a:List zaj}{c:zaj}(h:a.length<line):zyU ρ i (some (.val (cD c))) (some (some (.obj true (lD a))))=some (.nx,ρ.set i (some (.obj true (lD (a++[c]))))):=by
 rw[lD,zpO]
 simp only[Option.bind_some,zkn,List.length_map,h,if_true,zso]
theorem zsp(n:Nat)(hf:f.length<=100){ms:Ms}{T:zaj->Prop}(hT:zcm f l ms T){k:Int}{s4:SV}{ar0 ar fu ed:List zaj}{s8:Option SV}{o:zaj}(h:Ring f ms T ar0 ar fu)(hof:o∈f)(ho:T o):
  ∃ar' fu',zaR (zaq U zat n) zat zjb (caE f l ms k s4 ar ed (some (.obj true (lD fu))) s8 (some (.val (cD o))))=some (.nx,caE f l ms k s4 ar' ed (some (.obj true (lD fu'))) s8 (some (.val (cD o))))/\
   Ring f ms T ar0 ar' fu'/\o∈ar'/\∀y∈ar,y∈ar':=by
 have hl':=zbl
 obtain⟨h1,h2⟩:=h.len
 by_cases hin:o∈ar
 ·refine⟨ar,fu,?_,h,hin,fun y hy=>hy⟩
  simp[zjb,caE,zqW,hin]
 ·obtain⟨v,e1,_⟩:=hT o ho
  refine⟨ar++[o],fu++[v],?_,⟨?_,fun y hy=>?_,?_⟩,by simp,fun y hy=>List.mem_append_left _ hy⟩
  ·simp[zjb,caE,zqW,hin,zjj e1]
   rw[zjn (by omega)]
   simp[zjj e1]
   rw[zjn (by omega)]
   simp
  ·rw[List.nodup_append]
   refine⟨h.nd,by simp,fun a ha b hb e=>?_⟩
   simp at hb;subst hb;subst e;exact hin ha
  ·rw[List.mem_append,List.mem_singleton] at hy
   rcases hy with z|rfl
   ·exact h.sub y z
   ·exact⟨hof,ho⟩
  ·obtain⟨nw,r1,r2⟩:=h.new
   exact⟨nw++[o],by rw[r1];simp,by rw[r2];simp[zaG e1]⟩
theorem zsq(n:Nat)(hf:f.length<=100){ms:Ms}{T:zaj->Prop}(hT:zcm f l ms T){k:Int}{s4:SV}{ar0 ar fu ed:List zaj}{s9:Option SV}{x:zaj}(h:Ring f ms T ar0 ar fu)(hx: ∀o∈nb f l x,T o)(h9:zbn (some s9)=true):
  ∃ar' fu' s9',zaR (zaq U zat (n+3)) zat zlm (caE f l ms k s4 ar ed (some (.obj true (lD fu))) (some (.val (cD x))) s9)=some (.nx,caE f l ms k s4 ar' ed (some (.obj true (lD fu'))) (some (.val (cD x))) s9')/\
   Ring f ms T ar0 ar' fu'/\(∀o∈nb f l x,o∈ar')/\(∀y∈ar,y∈ar')/\zbn (some s9')=true:=by
 obtain⟨ρ',e,ar',fu',s9',rfl,r1,r2,r3,r4⟩:=zdQ (i:=9) (body:=zaR (zaq U zat (n+3)) zat zjb)
  (fun pre ρ=>∃ar' fu' s9',ρ=caE f l ms k s4 ar' ed (some (.obj true (lD fu'))) (some (.val (cD x))) s9'/\Ring f ms T ar0 ar' fu'/\(∀o∈pre,o∈ar')/\(∀y∈ar,y∈ar')/\zbn (some s9')=true)
  (xs:=nb f l x) (ρ:=caE f l ms k s4 ar ed (some (.obj true (lD fu))) (some (.val (cD x))) s9) ⟨ar,fu,s9,rfl,h,fun o ho=>(by cases ho),fun y hy=>hy,h9⟩
  fun pre o post ρ e zz5=>by
   obtain⟨ar',fu',s9',eρ,r1,r2,r3,r4⟩:=zz5
   subst eρ
   have ho:o∈nb f l x:=by rw[e];simp
   obtain⟨ar2,fu2,e2,q1,q2,q3⟩:=zsp (n+3) hf hT (k:=k) (s4:=s4) (ed:=ed) (s8:=some (.val (cD x))) r1 (zcn.mp ho).1 (hx o ho)
   refine⟨_,_,e2,.inl rfl,ar2,fu2,_,rfl,q1,fun y hy=>?_,fun y hy=>q3 y (r3 y hy),zbB⟩
   rw[List.mem_append,List.mem_singleton] at hy
   rcases hy with z|rfl
   ·exact q3 y (r2 y z)
   ·exact q2
 refine⟨ar',fu',s9',?_,r1,r2,r3,r4⟩
 have cn:=zd7 n l x (f:=f) (by omega:f.length<=1000)
 simp only[zlm,zcA,zdO]
 simp[caE,cn,h9]
 rw[<-nb,<-caE,e]
 simp[caE]
theorem zp2(n:Nat)(hf:f.length<=100){ms:Ms}{T:zaj->Prop}(hT:zcm f l ms T){k:Int}{s4:SV}{cr ar ed:List zaj}{s7 s8 s9:Option SV}(h4:s4= .val (lD cr)\/s4= .obj true (lD cr))(hcr:cr.length<=1000)(hed: ∀x∈ed,∀o∈nb f l x,T o)
  (hnd:ar.Nodup) (hsub: ∀y∈ar,y∈f/\T y) (h7:zbn (some s7)=true) (h8:zbn (some s8)=true) (h9:zbn (some s9)=true):
  ∃ar' fu s7' s8' s9',zaR (zaq U zat (n+3)) zat zln (caE f l ms k s4 ar ed s7 s8 s9)=some (.nx,caE f l ms k (.obj true (lD (cr++fu))) ar' fu s7' s8' s9')/\
   Ring f ms T ar ar' fu/\(∀x∈ed,∀o∈nb f l x,o∈ar')/\zbn (some s7')=true/\zbn (some s8')=true/\zbn (some s9')=true:=by
 obtain⟨ρ',e,ar',fu,s8',s9',rfl,r1,r2,r3,r4⟩:=zdQ (i:=8) (body:=zaR (zaq U zat (n+3)) zat zlm)
  (fun pre ρ=>∃ar' fu s8' s9',ρ=caE f l ms k s4 ar' ed (some (.obj true (lD fu))) s8' s9'/\Ring f ms T ar ar' fu/\(∀x∈pre,∀o∈nb f l x,o∈ar')/\zbn (some s8')=true/\zbn (some s9')=true)
  (xs:=ed) (ρ:=caE f l ms k s4 ar ed (some (.obj true (lD []))) s8 s9) ⟨ar,[],s8,s9,rfl,⟨hnd,hsub,[],by simp,rfl⟩,fun o ho=>(by cases ho),h8,h9⟩
  fun pre x post ρ e zz5=>by
   obtain⟨ar',fu,s8',s9',eρ,r1,r2,r3,r4⟩:=zz5
   subst eρ
   have hx:x∈ed:=by rw[e];simp
   obtain⟨ar2,fu2,s92,e2,q1,q2,q3,q4⟩:=zsq n hf hT (k:=k) (s4:=s4) (ed:=ed) (s9:=s9') (x:=x) r1 (hed x hx) r4
   refine⟨_,_,e2,.inl rfl,ar2,fu2,_,s92,rfl,q1,fun y hy o ho=>?_,zbB,q4⟩
   rw[List.mem_append,List.mem_singleton] at hy
   rcases hy with z|rfl
   ·exact q3 o (r2 y z o ho)
   ·exact q2 o ho
 refine⟨ar',fu,some (.val (lD fu)),s8',s9',?_,r1,r2,zbB,r3,r4⟩
 have hl':=zbl
 have hlen:=r1.len
 have hadd:zai .add [lD cr,lD fu]=some (.obj true (lD (cr++fu))):=by
  rw[lD,lD,zlh (by simp;omega)]
  simp[lD]
 simp only[zln]
 rcases h4 with rfl|rfl
 ·simp[caE,h7,h8,zlg]
  rw[show zgs (lD ed)=some (ed.map cD) from rfl,show D.lst []=lD [] from rfl]
  simp only[Option.map_some,Option.bind_some]
  rw[<-caE,e]
  simp[caE,hadd]
 ·simp[caE,h7,h8,zlg]
  rw[show zgs (lD ed)=some (ed.map cD) from rfl,show D.lst []=lD [] from rfl]
  simp only[Option.map_some,Option.bind_some]
  rw[<-caE,e]
  simp[caE,hadd]
structure Crowd (f:List zaj)(l:zaj)(ms:Ms)(T:zaj->Prop)(k:Int)(cr ar:List zaj):Prop where
 nd:ar.Nodup
 sub: ∀y∈ar,y∈f/\T y
 is:cr=(f.filter fun c=>decide (hue l c=k)&& !(get ms c).isSome)++ar.map (ze1 ms)
 all: ∀x∈cr,∀o∈nb f l x,o∈ar
theorem zp3(n:Nat)(hl:OkL l)(hf:OkF f){ms:Ms}{T:zaj->Prop}(hm:Match f l ms)(hT:zcm f l ms T){k:Int}(hfree: ∀x∈f,hue l x=k->get ms x=none->∀o∈nb f l x,T o):
  ∃cr ar,Crowd f l ms T k cr ar/\za7 U zat (n+5) 40 [fD f,cD l,dD ms,.int k]=some (.val (.tup [lD cr,lD ar])):=by
 have hl':=zbl
 have hlen:=hf.len
 let cr0:=f.filter fun c=>decide (hue l c=k)&& !(get ms c).isSome
 have hcr0: ∀x∈cr0,∀o∈nb f l x,T o:=fun x hx=>by
  rw[List.mem_filter,Bool.and_eq_true,decide_eq_true_iff] at hx
  exact hfree x hx.1 hx.2.1 (by simpa using hx.2.2)
 have hcl:cr0.length<=24:=Nat.le_trans (List.length_filter_le _ _) hlen
 obtain⟨ρ',e,s4,cr,ar,s7,s8,s9,rfl,h4,q1,q2,q3,q4,q5⟩:=zg3 (test:=evT (za7 U zat (n+4)) (.prim .gt (.cons (.prim .len (.cons (.var 6) .nil)) (.cons (.int 0) .nil)))) (body:=zaR (zaq U zat (n+4)) zat zln)
  (fun m ρ=>∃s4 cr ar ed s7 s8 s9,ρ=caE f l ms k s4 ar ed s7 s8 s9/\(s4= .val (lD cr)\/s4= .obj true (lD cr))/\ar.Nodup/\(∀y∈ar,y∈f/\T y)/\cr=cr0++ar.map (ze1 ms)/\(∀x∈cr,x∈ed\/∀o∈nb f l x,o∈ar)/\(∀x∈ed,∀o∈nb f l x,T o)/\
   (zbn (some s7)=true/\zbn (some s8)=true/\zbn (some s9)=true)/\m=2*(f.length-ar.length)+(if ed=[] then 0 else 1))
  (fun ρ=>∃s4 cr ar s7 s8 s9,ρ=caE f l ms k s4 ar [] s7 s8 s9/\(s4= .val (lD cr)\/s4= .obj true (lD cr))/\ar.Nodup/\(∀y∈ar,y∈f/\T y)/\cr=cr0++ar.map (ze1 ms)/\(∀x∈cr,∀o∈nb f l x,o∈ar)/\True)
  (m:=2*f.length+(if cr0=[] then 0 else 1)) (n:=zat) (ρ:=caE f l ms k (.val (lD cr0)) [] cr0 none none none) (by unfold zat;split<;>omega)
  ⟨_,cr0,[],cr0,none,none,none,rfl,.inl rfl,by simp,fun y h=>(by cases h),by simp,fun x hx=>.inl hx,hcr0,⟨rfl,rfl,rfl⟩,by simp⟩
  fun m ρ zz2=>by
   obtain⟨s4,cr,ar,ed,s7,s8,s9,eρ,h4,q1,q2,q3,q4,q5,q6,q7⟩:=zz2
   subst eρ
   have ht:evT (za7 U zat (n+4)) (.prim .gt (.cons (.prim .len (.cons (.var 6) .nil)) (.cons (.int 0) .nil))) (caE f l ms k s4 ar ed s7 s8 s9)=some (decide (0<ed.length)):=by
    simp[caE,lD]
   by_cases hed:ed=[]
   ·subst hed
    exact .inl ⟨by rw[ht];rfl,s4,cr,ar,s7,s8,s9,rfl,h4,q1,q2,q3,fun x hx=>(q4 x hx).resolve_left (by simp),trivial⟩
   ·have hpos:0<ed.length:=List.length_pos_iff.mpr hed
    refine .inr ⟨by rw[ht];simp[hpos],?_⟩
    have hal:=zbo q1 fun y hy=>(q2 y hy).1
    have hcrl:cr.length<=1000:=by rw[q3];simp;omega
    obtain⟨ar',fu,s7',s8',s9',e2,r1,r2,r3⟩:=zp2 (n+1) (by omega) hT (k:=k) h4 hcrl q5 q1 q2 q6.1 q6.2.1 q6.2.2
    obtain⟨nw,n1,n2⟩:=r1.new
    have hal':=r1.len.1
    refine⟨_,_,2*(f.length-ar'.length)+(if fu=[] then 0 else 1),e2,.inl rfl,?_,_,cr++fu,ar',fu,s7',s8',s9',rfl,.inr rfl,r1.nd,r1.sub,?_,fun x hx=>?_,fun x hx o ho=>?_,r3,rfl⟩
    ·rw[q7,if_neg hed,n2,n1]
     cases nw with
     |nil=>simp
     |cons a b=>rw[n1] at hal';simp at hal'⊢;omega
    ·rw[q3,n1,n2];simp
    ·rw[List.mem_append] at hx
     rcases hx with z|z
     ·right
      rcases q4 x z with w|w
      ·exact r2 x w
      ·intro o ho;rw[n1];exact List.mem_append_left _ (w o ho)
     ·exact .inl z
    ·rw[n2,List.mem_map] at hx
     obtain⟨y,hy,rfl⟩:=hx
     obtain⟨v,e1,e3⟩:=hT y (r1.sub y (by rw[n1];exact List.mem_append_right _ hy)).2
     rw[zaG e1] at ho
     exact e3 o ho
 refine⟨cr,ar,⟨q1,q2,q3,q4⟩,?_⟩
 have ch:=zc4 n hl (f:=f) (by omega) k
 rw[zay U40 rfl]
 simp only[zvt,zcA,zi7,zsc]
 rw[zbt (rs:=[.obj true (.lst ((f.filter fun c=>decide (hue l c=k)).map cD))]) (xs:=f.filter fun c=>decide (hue l c=k)) (f:=cD) (fun c=> !(get ms c).isSome) cD]
 ·simp
  have hflt:(f.filter fun a=>(get ms a).isNone&&decide (hue l a=k))=cr0:=by
   apply List.filter_congr
   intro x _
   rw[Bool.and_comm]
   cases get ms x<;>rfl
  have e':=e
  rw[hflt,zi7,zn3,show (D.lst (cr0.map cD))=lD cr0 from rfl,show D.lst []=lD [] from rfl,<-caE,e']
  rcases h4 with rfl|rfl
  ·simp[caE]
  ·simp[caE]
 ·simp[ch]
 ·rfl
 ·have:=List.length_filter_le (fun c=>decide (hue l c=k)) f
  omega
 ·intro x _
  simp
 ·intro x _ _
  simp
theorem zl8(hl:OkL l){ms:Ms}{T:zaj->Prop}(h:Final f l ms T): ∃T',zcm f l ms T'/\(∀x∈f,hue l x=1->get ms x=none->∀o∈nb f l x,T' o)/\∀y,T' y->hue l y=0:=by
 refine⟨fun x=>x∈f/\hue l x=0/\¬ ∀o∈nb f l x,T o,fun x ⟨hx,h0,hn⟩=>?_,fun y hy h1 hg o ho=>?_,fun y h=>h.2.1⟩
 ·cases q:get ms x with
  |none=>exact absurd (h.free x hx h0 q) hn
  |some v=>
   refine⟨v,rfl,fun o ho=>?_⟩
   obtain⟨_,g2,g3⟩:=h.inF _ _ q
   have hv:=(za1 hl g3).1 h0
   rw[zcn] at ho
   refine⟨ho.1,(za1 hl ho.2).2 hv,fun hT=>hn ?_⟩
   have hTv:=hT v (zcn.mpr ⟨g2,by rw[zc3];exact ho.2⟩)
   obtain⟨x',e1,e2⟩:=h.cl v hTv
   rw[h.sym _ _ q] at e1
   cases e1
   exact e2
 ·rw[zcn] at ho
  refine⟨ho.1,(za1 hl ho.2).2 h1,fun hT=>?_⟩
  obtain⟨x',e1,_⟩:=h.cl y (hT y (zcn.mpr ⟨hy,by rw[zc3];exact ho.2⟩))
  rw[hg] at e1;cases e1
@[simp] theorem zAn{a b:D}:zai .idx [.tup [a,b],.int 0]=some (.val a):=id rfl
@[simp] theorem zvG{g:List zaj}:zbU (lD g)=true:=by simp[lD]
@[simp] theorem zxI{g:List zaj}:zfh .list (lD g)=true:=id rfl
theorem zqZ{g:List zaj}:zai .len [lD g]=some (.val (.int g.length)):=by simp[lD]
theorem zoj{ms:Ms}{g:List zaj}:zai .len [.lst (g.map (zbx ms))]=some (.val (.int g.length)):=by simp
end
end LK
namespace LK
open L2.LW
section
variable {α:Type}
noncomputable def zq0(ms:List (zaj×α))(c:zaj):Option α:=(ms.find? fun p=>decide (p.1=c)).map (·.2)
theorem zok(p:zaj×α)(r:List (zaj×α))(c:zaj):zq0 (p::r) c=if p.1=c then some p.2 else zq0 r c:=by
 unfold zq0
 rw[List.find?_cons]
 by_cases h:p.1=c<;>simp[h]
theorem zfW(c:zaj): ∀ms:List (zaj×α),(zq0 ms c).isSome=decide (c∈ms.map (·.1))
 |[]=>rfl
 |p::r=>by
  rw[zok,List.map_cons]
  by_cases h:p.1=c
  ·simp[h]
  ·rw[if_neg h,zfW c r]
   have: ¬c=p.1:=fun z=>h z.symm
   simp[this]
end
section
variable (f:List zaj) (l:zaj)
noncomputable def Bk(goal:zaj):Nat->zaj->Prop
 |0,c=>c=goal
 |k+1,c=>Bk goal k c\/(c∈f/\∃p,Bk goal k p/\zeZ l c p=true)
noncomputable def Lv(goal:zaj)(k:Nat)(c:zaj):Prop:=Bk f l goal k c/\∀i,i<k->¬Bk f l goal i c
noncomputable abbrev zvH:=List (zaj×Option zaj)
structure LOk (goal:zaj)(ms:zvH):Prop where
 nd:(ms.map (·.1)).Nodup
 sub: ∀c,(zq0 ms c).isSome=true->c∈f
 root: ∀c,zq0 ms c=some none->c=goal
 next: ∀c p,zq0 ms c=some (some p)->zeZ l c p=true/\∃j,Lv f l goal (j+1) c/\Lv f l goal j p/\(zq0 ms p).isSome=true
end
section
variable {f:List zaj} {l:zaj} {goal:zaj}
theorem Bk.mono: ∀{k m:Nat} {c:zaj},k<=m->Bk f l goal k c->Bk f l goal m c
 |k,0,c,h,b=>by
  have:k=0:=by omega
  subst this;exact b
 |k,m+1,c,h,b=>by
  by_cases e:k=m+1
  ·subst e;exact b
  ·exact .inl (Bk.mono (by omega) b)
theorem Bk.inF(hg:goal∈f): ∀{k:Nat} {c:zaj},Bk f l goal k c->c∈f
 |0,c,h=>by rw[show c=goal from h];exact hg
 |k+1,c,h=>by
  rcases h with h|h
  ·exact Bk.inF hg h
  ·exact h.1
theorem Bk.lv{k:Nat}{c:zaj}(h:Bk f l goal k c): ∃j,j<=k/\Lv f l goal j c:=by
 induction k with
 |zero=>exact⟨0,Nat.le_refl _,h,fun i hi=>by omega⟩
 |succ k ih=>
  by_cases hk:Bk f l goal k c
  ·obtain⟨j,h1,h2⟩:=ih hk
   exact⟨j,by omega,h2⟩
  ·exact⟨k+1,Nat.le_refl _,h,fun i hi z=>hk (z.mono (by omega))⟩
theorem LOk.len{ms:zvH}(h:LOk f l goal ms):ms.length<=f.length:=by
 have:=zbo (l:=ms.map fun (p:zaj×Option zaj)=>p.1) (m:=f) h.nd fun x hx=>h.sub x (by rw[zfW];simpa using hx)
 simpa using this
end
end LK
namespace LK
open L2.LW
theorem zd9{α:Type}{R:α->α->Prop}(ir: ∀a,¬R a a)(as: ∀a b,R a b->R b a->False): ∀{l m:List α},l.Pairwise R->m.Pairwise R->(∀x,x∈l↔x∈m)->l=m
 |[],[],_,_,_=>rfl
 |[],y::m,_,_,h=>absurd ((h y).mpr List.mem_cons_self) (by simp)
 |x::l,[],_,_,h=>absurd ((h x).mp List.mem_cons_self) (by simp)
 |x::l,y::m,hl,hm,h=>by
  rw[List.pairwise_cons] at hl hm
  have exy:x=y:=by
   rcases List.mem_cons.mp ((h x).mp List.mem_cons_self) with e|e
   ·exact e
   ·rcases List.mem_cons.mp ((h y).mpr List.mem_cons_self) with e'|e'
    ·exact e'.symm
    ·exact (as _ _ (hm.1 x e) (hl.1 y e')).elim
  subst exy
  rw[zd9 ir as hl.2 hm.2 fun z=>?_]
  constructor
  ·intro hz
   rcases List.mem_cons.mp ((h z).mp (List.mem_cons_of_mem _ hz)) with e|e
   ·subst e;exact (ir _ (hl.1 z hz)).elim
   ·exact e
  ·intro hz
   rcases List.mem_cons.mp ((h z).mpr (List.mem_cons_of_mem _ hz)) with e|e
   ·subst e;exact (ir _ (hm.1 z hz)).elim
   ·exact e
noncomputable def cl(c:zaj):List Int:=[c.1,c.2]
theorem zq1{a b:zaj}(h:cl a=cl b):a=b:=by
 simp[cl] at h;exact Prod.ext h.1 h.2
theorem zzs{a b:zaj}(h:cLt a b):zki (cl a) (cl b):=by
 show L2.LW.lexLt [a.1,a.2] [b.1,b.2]=true
 simp only[L2.LW.lexLt]
 unfold cLt at h
 by_cases e:a.1=b.1
 ·have: ¬a.2=b.2:=by omega
  have h2:a.2<b.2:=by omega
  simp[e,this,h2]
 ·have h2:a.1<b.1:=by omega
  simp[e,h2]
theorem zg9: ∀L:List zaj,tups? (L.map cD)=some (L.map cl)
 |[]=>rfl
 |c::r=>by simp[tups?,cD,ints?,zg9 r,cl]
theorem zl9{L g:List zaj}(hL:L.Nodup)(hg:g.Pairwise cLt)(h: ∀x,x∈L↔x∈g):zey (L.map cl)=g.map cl:=by
 have nd:(L.map cl).Nodup:=by
  rw[List.Nodup,List.pairwise_map];exact hL.imp fun ne e=>ne (zq1 e)
 have up:=zd5 nd
 have up2:(g.map cl).Pairwise zki:=by rw[List.pairwise_map];exact hg.imp zzs
 refine zd9 (R:=zki) (fun a z=>by have:=za4 a;rw[show L2.LW.lexLt a a=true from z] at this;cases this) (fun a b z1 z2=>by have:=zb8 z1 z2;rw[za4] at this;cases this) up up2 fun x=>?_
 rw[(zb4 _).mem_iff,List.mem_map,List.mem_map]
 exact⟨fun ⟨c,hc,e⟩=>⟨c,(h c).mp hc,e⟩,fun ⟨c,hc,e⟩=>⟨c,(h c).mpr hc,e⟩⟩
theorem zhN{L g:List zaj}(hL:L.Nodup)(hl:L.length<64)(hg:g.Pairwise cLt)(h: ∀x,x∈L↔x∈g):zj4 (L.map cD)=some (.obj true (lD g)):=by
 unfold zj4
 have nd:(L.map cl).Nodup:=by
  rw[List.Nodup,List.pairwise_map];exact hL.imp fun ne e=>ne (zq1 e)
 rw[zg9,Option.bind_some,if_pos ⟨by simpa using hl,nd,by simp[cl]⟩,zl9 hL hg h,List.map_map]
 rfl
theorem zea{L g:List zaj}(h0:L≠[])(hL:L.Nodup)(hl:L.length<64)(hg:g.Pairwise cLt)(h: ∀x,x∈L↔x∈g):zfD (L.map cD)=some (.obj true (lD g)):=by
 unfold zfD
 have:ints? (L.map cD)=none:=by
  cases L with
  |nil=>exact absurd rfl h0
  |cons c r=>rfl
 rw[this]
 exact zhN hL hl hg h
noncomputable def zA1(f:List zaj)(l c:zaj):List zaj:=f.filter fun x=>@decide (∃k,Bk f l c k x) (Classical.propDecidable _)
noncomputable def zkv(f:List zaj)(l:zaj):List zaj->List (List zaj)->List (List zaj)
 |[],acc=>acc
 |c::r,acc=>if c∈acc.flatten then zkv f l r acc else zkv f l r (acc++[zA1 f l c])
noncomputable def zA2(f:List zaj)(l:zaj):List (List zaj):=zkv f l f []
end LK
namespace LK
open L2.LW
section
variable {f:List zaj} {l:zaj}
theorem Bk.join{b c:zaj}{k:Nat}(h2:Bk f l c k b): ∀{j:Nat} {a:zaj},Bk f l b j a->Bk f l c (k+j) a
 |0,a,h=>by rw[show a=b from h];exact h2
 |j+1,a,h=>by
  rcases h with h|⟨ha,p,hp,hn⟩
  ·exact .inl (Bk.join h2 h)
  ·exact .inr ⟨ha,p,Bk.join h2 hp,hn⟩
theorem Bk.symm{b:zaj}(hb:b∈f): ∀{j:Nat} {a:zaj},a∈f->Bk f l b j a->Bk f l a j b
 |0,a,_,h=>by rw[show a=b from h];exact rfl
 |j+1,a,ha,h=>by
  rcases h with h|⟨_,p,hp,hn⟩
  ·exact .inl (Bk.symm hb ha h)
  ·have hpf:=hp.inF hb
   have h1:=Bk.symm hb hpf hp
   have h2:Bk f l a 1 p:=.inr ⟨hpf,a,rfl,by rw[zc3];exact hn⟩
   have:=Bk.join h2 h1
   rwa [Nat.add_comm] at this
end
theorem zjo: ∀L:List zaj,L.Nodup->∃g:List zaj,g.Pairwise cLt/\∀x,x∈L↔x∈g
 |[],_=>⟨[],.nil,fun x=>Iff.rfl⟩
 |c::r,h=>by
  rw[List.nodup_cons] at h
  obtain⟨g,h1,h2⟩:=zjo r h.2
  refine⟨g.filter (fun x=>decide (cLt x c))++c::g.filter (fun x=>decide (cLt c x)),?_,fun x=>?_⟩
  ·rw[List.pairwise_append]
   refine⟨h1.filter _,?_,fun a ha b hb=>?_⟩
   ·rw[List.pairwise_cons]
    exact⟨fun b hb=>by simpa using (List.mem_filter.mp hb).2,h1.filter _⟩
   ·have ha':cLt a c:=by simpa using (List.mem_filter.mp ha).2
    rcases List.mem_cons.mp hb with rfl|hb
    ·exact ha'
    ·exact zjd ha' (by simpa using (List.mem_filter.mp hb).2)
  ·rw[List.mem_append,List.mem_cons,List.mem_cons,List.mem_filter,List.mem_filter,h2 x]
   constructor
   ·rintro (rfl|hx)
    ·exact .inr (.inl rfl)
    ·have ne:x≠c:=fun e=>h.1 (by rw[<-e,h2];exact hx)
     rcases zfR ne with z|z
     ·exact .inl ⟨hx,by simp[z]⟩
     ·exact .inr (.inr ⟨hx,by simp[z]⟩)
   ·rintro (⟨hx,_⟩|rfl|⟨hx,_⟩)
    ·exact .inr hx
    ·exact .inl rfl
    ·exact .inr hx
end LK
namespace LK
open L2.LW
theorem zfX{α:Type}{p:α->Bool}: ∀{f:List α},(f.filter p).length+(f.filter fun x=> !p x).length=f.length
 |[]=>rfl
 |a::r=>by
  have:=zfX (p:=p) (f:=r)
  rw[List.filter_cons,List.filter_cons,List.length_cons]
  cases h:p a
  ·simp;omega
  ·simp;omega
section
variable {f:List zaj} {l:zaj}
theorem zma(hl:OkL l)(hn:f.Nodup){ms:Ms}(h:Match f l ms):(f.filter fun c=>(get ms c).isNone).length+2*(ml f l ms).length=f.length:=by
 have e1:=zfX (p:=fun c=>(get ms c).isNone) (f:=f)
 have e2:=zfX (p:=fun c=>decide (hue l c=0)) (f:=f.filter fun c=> !(get ms c).isNone)
 have hA:(f.filter fun c=> !(get ms c).isNone).filter (fun c=>decide (hue l c=0))=ml f l ms:=by
  unfold ml
  rw[List.filter_filter]
  apply List.filter_congr
  intro c _
  cases get ms c<;>simp
 rw[hA] at e2
 generalize hB:((f.filter fun c=> !(get ms c).isNone).filter fun c=> !decide (hue l c=0))=B at e2
 have memB: ∀c,c∈B↔c∈f/\(∃v,get ms c=some v)/\hue l c≠0:=fun c=>by
  rw[<-hB,List.mem_filter,List.mem_filter]
  cases hg:get ms c<;>simp
 have nB:B.Nodup:=by rw[<-hB];exact (hn.sublist List.filter_sublist).sublist List.filter_sublist
 have le1:(ml f l ms).length<=B.length:=zcB (ze1 ms) (zhL hn) (fun x hx=>by
  obtain⟨h1,h2,v,h3⟩:=zco.mp hx
  rw[zaG h3,memB]
  have:=h.inF _ _ h3
  have fl:=(za1 hl this.2.2).1 h2
  exact⟨this.2.1,⟨x,h.sym _ _ h3⟩,by omega⟩) fun x hx y hy e=>by
  obtain⟨_,_,v,h3⟩:=zco.mp hx
  obtain⟨_,_,w,h4⟩:=zco.mp hy
  rw[zaG h3,zaG h4] at e
  subst e
  exact h.inj h3 h4
 have le2:B.length<=(ml f l ms).length:=zcB (ze1 ms) nB (fun x hx=>by
  obtain⟨h1,⟨v,h3⟩,h2⟩:=(memB x).mp hx
  rw[zaG h3,zco]
  have:=h.inF _ _ h3
  have fl:=(za1 hl this.2.2).2 ((zcc (l:=l) x).resolve_left h2)
  exact⟨this.2.1,fl,x,h.sym _ _ h3⟩) fun x hx y hy e=>by
  obtain⟨_,⟨v,h3⟩,_⟩:=(memB x).mp hx
  obtain⟨_,⟨w,h4⟩,_⟩:=(memB y).mp hy
  rw[zaG h3,zaG h4] at e
  subst e
  exact h.inj h3 h4
 omega
end
end LK
namespace LK
open L2.LW
theorem zeK{α:Type}{g:α->D}(h: ∀x,plain (g x)=true): ∀{L:List α},zbr (L.map g)=true
 |[]=>by simp
 |a::r=>by simp[h a,zeK h (L:=r)]
section
variable {f:List zaj} {l:zaj}
theorem zfY(hn:f.Nodup){ms:Ms}{T:zaj->Prop}(hm:Match f l ms)(hT:zcm f l ms T){k:Int}{cr ar:List zaj}(h:Crowd f l ms T k cr ar):cr.Nodup:=by
 have mt: ∀y∈ar,∃x,get ms y=some x:=fun y hy=>by
  obtain⟨x,e,_⟩:=hT y (h.sub y hy).2
  exact⟨x,e⟩
 rw[h.is,List.nodup_append]
 refine⟨hn.sublist List.filter_sublist,zc5 (fun a ha b hb e=>?_) h.nd,fun a ha b hb e=>?_⟩
 ·obtain⟨x,ex⟩:=mt a ha
  obtain⟨y,ey⟩:=mt b hb
  rw[zaG ex,zaG ey] at e
  subst e
  exact hm.inj ex ey
 ·obtain⟨y,hy,rfl⟩:=List.mem_map.mp hb
  obtain⟨x,ex⟩:=mt y hy
  rw[zaG ex] at e
  subst e
  have:=(List.mem_filter.mp ha).2
  rw[hm.sym _ _ ex] at this
  simp at this
theorem zjp{ms:Ms}{T:zaj->Prop}(hm:Match f l ms)(hT:zcm f l ms T){k:Int}{cr ar:List zaj}(h:Crowd f l ms T k cr ar): ∀x∈cr,x∈f:=fun x hx=>by
 rw[h.is,List.mem_append] at hx
 rcases hx with hx|hx
 ·exact (List.mem_filter.mp hx).1
 ·obtain⟨y,hy,rfl⟩:=List.mem_map.mp hx
  obtain⟨x,e,_⟩:=hT y (h.sub y hy).2
  rw[zaG e]
  exact (hm.inF _ _ e).2.1
end
end LK
namespace LK
open L2.LW
noncomputable def zsr(l:zaj):List Int:=((List.range 4).map fun (k:Nat)=>(1+(k:Int))).filter fun d=>decide (l.1%d=0)&&decide (l.2%d=0)
theorem zp4{l:zaj}(h:OkL l): ∃n r,zsr l=n::r/\r.foldl max n=zb6 l:=by
 have:=zku h
 simp only[List.mem_cons,List.not_mem_nil,or_false] at this
 rcases this with rfl|rfl|rfl|rfl|rfl|rfl|rfl|rfl|rfl|rfl|rfl|rfl|rfl|rfl
 all_goals
  first
   |exact⟨1,[],by decide+kernel,by decide+kernel⟩
   |exact⟨1,[2],by decide+kernel,by decide+kernel⟩
   |exact⟨1,[3],by decide+kernel,by decide+kernel⟩
   |exact⟨1,[2,4],by decide+kernel,by decide+kernel⟩
theorem zmb(n:Nat){l:zaj}(h:OkL l)(c:zaj):za7 U zat (n+1) 28 [cD l,cD c]=some (.val (.int (hue l c))):=by
 rw[zay U28 rfl]
 have hl':=zbl
 obtain⟨_,g1,g2⟩:=zft h
 have hg:0<zb6 l/\zb6 l<1073741824:=by omega
 have h2:(0:Int)<2:=by decide
 obtain⟨m,r,e1,e2⟩:=zp4 h
 simp only[zvq]
 simp
 rw[zbt (rs:=[.val (.int 1),.val (.int 5)]) (xs:=(List.range 4).map fun (k:Nat)=>(1+(k:Int))) (f:=D.int) (fun d=>decide (l.1%d=0)&&decide (l.2%d=0)) D.int]
 ·have hx:zai .maxL [.lst ((zsr l).map D.int)]=some (.val (.int (zb6 l))):=by rw[e1,zqV,e2]
  unfold zsr at hx
  simp[hx,zn4 hg,zfi h2]
  unfold hue zmu
  by_cases ho:(l.1/zb6 l+l.2/zb6 l)%2=1
  ·simp[ho,zfi h2]
  ·simp[ho,zfi h2]
 ·simp
 ·rw[zeI ⟨zbM (by omega) (by omega),zbM (by omega) (by omega)⟩,List.map_map]
  rfl
 ·simp;omega
 ·intro d hd
  rw[List.mem_map] at hd
  obtain⟨k,hk,rfl⟩:=hd
  have hp:0<1+(k:Int):=by omega
  simp[zfi hp]
  by_cases h0:l.1%(1+(k:Int))=0
  ·simp[h0];rw[Bool.eq_iff_iff];simp
  ·simp[h0]
 ·intro d hd _
  simp
section
variable {f:List zaj} {l:zaj}
theorem zol(n:Nat)(hl:OkL l)(hf:OkF f): ∃ms T,Final f l ms T/\
  (((f.filter fun c=>(get ms c).isNone)=[]/\za7 U zat (n+30) 47 [fD f,cD l]=some (.val (.tup [.str (PySem.Str.ofString "paired"),.lst ((prs f ms).map (zbx ms))])))\/
  ∃a T' cr ar g,(a∈f/\get ms a=none)/\zcm f l ms T'/\(∀y,T' y->hue l y≠hue l a)/\Crowd f l ms T' (hue l a) cr ar/\g.Pairwise cLt/\(∀x,x∈cr↔x∈g)/\za7 U zat (n+30) 47 [fD f,cD l]=some (.val (.tup [.str (PySem.Str.ofString "crowd"),lD g]))):=by
 have hl':=zbl
 have hlen:=hf.len
 have hn:=zhK hf
 obtain⟨ms,T,h1,h2⟩:=ze0 n hl hf
 refine⟨ms,T,h1,?_⟩
 have ck:=zg6 (n+25) hf
 have cl':=zc2 (n+26) hl
 generalize hA:(f.filter fun c=>(get ms c).isNone)=A
 have comp:evE (za7 U zat (n+29)) (.comp false (.cons (.var 0) .nil) (.prim .nin (.cons (.var 0) (.cons (.var 3) .nil))) (.var 0)) [some (.val (fD f)),some (.val (cD l)),some (.obj true (dD ms)),none,none]=some (.obj true (lD A)):=by
  rw[zbt (rs:=[.val (fD f)]) (xs:=f) (f:=cD) (fun c=>(get ms c).isNone) cD]
  ·rw[hA];rfl
  ·simp
  ·rfl
  ·omega
  ·intro x _
   simp[zvz]
  ·intro x _ _;simp
 rw[zay U47 rfl]
 simp only[zvv]
 cases A with
 |nil=>
  have e0:zai .len [lD []]=some (.val (.int 0)):=rfl
  have po:=zfV (n+28) (f:=f) (by omega) (ms:=ms)
  refine .inl ⟨rfl,?_⟩
  have pl:(SV.obj true (.lst ((prs f ms).map (zbx ms)))).plain=true:=zeK fun c=>by simp[zbx]
  generalize (prs f ms).map (zbx ms)=L at*
  simp[ck,cl',h2,comp,e0,po,zfQ pl]
 |cons a r=>
  have ha:=List.mem_filter.mp (show a∈f.filter fun c=>(get ms c).isNone by rw[hA];exact List.mem_cons_self)
  have hg:get ms a=none:=by simpa using ha.2
  have hh:=zjm (n+26) hl a
  have ix:zai .idx [lD (a::r),.int 0]=some (.val (cD a)):=by
   rw[lD,zn5,show (0:Int)=((0:Nat):Int) from rfl,atI_nat (by simp)];rfl
  obtain⟨m,ln,nz⟩: ∃m:Int,zai .len [lD (a::r)]=some (.val (.int m))/\¬m=0:=⟨_,zqZ,by rw[List.length_cons];omega⟩
  have cw: ∃T',zcm f l ms T'/\(∀x∈f,hue l x=hue l a->get ms x=none->∀o∈nb f l x,T' o)/\∀y,T' y->hue l y≠hue l a:=by
   rcases zcc (l:=l) a with z|z
   ·rw[z];exact⟨T,h1.cl,h1.free,fun y hy=>by have:=h1.side y hy;omega⟩
   ·rw[z]
    obtain⟨T',c,d,e⟩:=zl8 hl h1
    exact⟨T',c,d,fun y hy=>by have:=e y hy;omega⟩
  obtain⟨T',c1,c2,c3⟩:=cw
  obtain⟨cr,ar,w,e40⟩:=zp3 (n+24) hl hf h1.toMatch c1 (k:=hue l a) c2
  have ncr:=zfY hn h1.toMatch c1 w
  have scr:=zjp h1.toMatch c1 w
  have lcr:cr.length<64:=by have:=zbo ncr scr;omega
  have ne:cr≠[]:=fun z=>by
   have:a∈cr:=by
    rw[w.is,List.mem_append]
    exact .inl (List.mem_filter.mpr ⟨ha.1,by simp[hg]⟩)
   rw[z] at this;cases this
  obtain⟨g,g1,g2⟩:=zjo cr ncr
  have so:zai .sorted [lD cr]=some (.obj true (lD g)):=zea ne ncr lcr g1 g2
  have i0:zai .idx [.tup [lD cr,lD ar],.int 0]=some (.val (lD cr)):=rfl
  refine .inr ⟨a,T',cr,ar,g,⟨ha.1,hg⟩,c1,c3,w,g1,g2,?_⟩
  generalize hue l a=hu at*
  simp[ck,cl',h2,comp,ln,nz,ix,hh,e40,i0,so]
theorem zjq{ms:Ms}: ∀L:List zaj,zgp (L.map (zbx ms)) (L.map (zbx ms))=true
 |[]=>rfl
 |c::r=>by simp[zgp,eqD,zbx,zjq r]
noncomputable def k4(ms:Ms)(c:zaj):List Int:=[c.1,c.2,(ze1 ms c).1,(ze1 ms c).2]
theorem zq2{ms:Ms}: ∀L:List zaj,prs? (L.map (zbx ms))=some (L.map (k4 ms))
 |[]=>rfl
 |c::r=>by
  have ih:=zq2 (ms:=ms) r
  show (prs? (r.map (zbx ms))).map _=_
  rw[ih];rfl
theorem zzt{ms:Ms}{a b:zaj}(h:cLt a b):zki (k4 ms a) (k4 ms b):=by
 show L2.LW.lexLt [a.1,a.2,_,_] [b.1,b.2,_,_]=true
 simp only[L2.LW.lexLt]
 unfold cLt at h
 by_cases e:a.1=b.1
 ·have: ¬a.2=b.2:=by omega
  have h2:a.2<b.2:=by omega
  simp[e,this,h2]
 ·have h2:a.1<b.1:=by omega
  simp[e,h2]
theorem zmc{ms:Ms}{L:List zaj}(hL:L.Pairwise cLt)(hl:L.length<64):zai .sortP [.lst (L.map (zbx ms))]=some (.obj true (.lst (L.map (zbx ms)))):=by
 show ziE [.lst (L.map (zbx ms))]=_
 unfold ziE
 have up2:(L.map (k4 ms)).Pairwise zki:=by rw[List.pairwise_map];exact hL.imp zzt
 have nd:(L.map (k4 ms)).Nodup:=up2.imp fun {a b} z e=>by
  subst e
  have:=za4 a;rw[show L2.LW.lexLt a a=true from z] at this;cases this
 have up:=zd5 nd
 have e:zey (L.map (k4 ms))=L.map (k4 ms):=zd9 (R:=zki) (fun a z=>by have:=za4 a;rw[show L2.LW.lexLt a a=true from z] at this;cases this) (fun a b z1 z2=>by have:=zb8 z1 z2;rw[za4] at this;cases this) up up2 fun x=>(zb4 _).mem_iff
 simp only[zq2,Option.bind_some]
 rw[if_pos ⟨by simpa using hl,nd⟩,e,List.map_map]
 rfl
noncomputable def zcd(ms:Ms)(L:List zaj):List zaj:=L.flatMap fun c=>[c,ze1 ms c]
theorem zss(hl:OkL l)(hn:f.Nodup){ms:Ms}(h:Match f l ms)(ha:(f.filter fun c=>(get ms c).isNone)=[]):(zcd ms (prs f ms)).Nodup/\∀x,x∈zcd ms (prs f ms)↔x∈f:=by
 constructor
 ·unfold zcd
  refine List.pairwise_flatMap.mpr ⟨fun c hc=>?_,?_⟩
  ·obtain⟨_,v,e,z⟩:=zbT.mp hc
   rw[zaG e,List.pairwise_cons]
   refine⟨fun y hy ey=>?_,by simp⟩
   simp at hy;subst hy;subst ey
   exact zdh z
  ·refine List.Pairwise.imp_of_mem (fun {c d} hc hd ne x hx y hy e=>?_) (hn.sublist (l₁:=prs f ms) List.filter_sublist)
   obtain⟨_,v,e1,z1⟩:=zbT.mp hc
   obtain⟨_,w,e2,z2⟩:=zbT.mp hd
   rw[zaG e1] at hx
   rw[zaG e2] at hy
   subst e
   simp only[List.mem_cons,List.not_mem_nil,or_false] at hx hy
   rcases hx with rfl|rfl<;>rcases hy with rfl|rfl
   ·exact ne rfl
   ·have:=h.sym _ _ e2
    rw[e1] at this;cases this
    exact zc1 z1 z2
   ·have:=h.sym _ _ e1
    rw[e2] at this;cases this
    exact zc1 z1 z2
   ·exact ne (h.inj e1 e2)
 ·intro x
  unfold zcd
  rw[List.mem_flatMap]
  constructor
  ·rintro⟨c,hc,hx⟩
   obtain⟨h1,v,e,_⟩:=zbT.mp hc
   rw[zaG e] at hx
   simp only[List.mem_cons,List.not_mem_nil,or_false] at hx
   rcases hx with rfl|rfl
   ·exact h1
   ·exact (h.inF _ _ e).2.1
  ·intro hx
   cases e:get ms x with
   |none=>
    have:x∈f.filter fun c=>(get ms c).isNone:=List.mem_filter.mpr ⟨hx,by simp[e]⟩
    rw[ha] at this;cases this
   |some v=>
    obtain⟨_,g2,g3⟩:=h.inF _ _ e
    rcases zfR (zoi hl g3) with z|z
    ·exact⟨x,zbT.mpr ⟨hx,v,e,z⟩,List.mem_cons_self⟩
    ·have e':=h.sym _ _ e
     exact⟨v,zbT.mpr ⟨g2,x,e',z⟩,by rw[zaG e'];simp⟩
theorem zjr: ∀{L:List zaj},(∀c∈L,okC c)->zeS (L.map cD)=some L
 |[],_=>rfl
 |c::r,h=>by
  have h1:=h c List.mem_cons_self
  unfold okC at h1
  rw[List.map_cons,zeS,zjr fun x hx=>h x (List.mem_cons_of_mem _ hx)]
  have e:zrC (cD c)=some c:=by
   show (if 0<=c.1/\c.1<=7/\0<=c.2/\c.2<=7 then some (c.1,c.2) else none)=_
   rw[if_pos h1]
  rw[e];rfl
theorem zmd{L:List zaj}(h: ∀c∈L,okC c):zai .nset [lD L]=some (.val (.int (nub L).length)):=by
 show zj6 [.lst (L.map cD)]=_
 unfold zj6
 simp only[zjr h]
theorem zls: ∀L:List Int,zlR (L.map D.int)=some L
 |[]=>rfl
 |i::r=>by rw[List.map_cons,zlR,zls r];rfl
theorem zst{k:Int}: ∀{L:List Int},L≠[]->(∀x∈L,x=k)->(nub L).length=1:=fun {L} h0 h=>by
 have h1:=zbo (l:=nub L) (m:=[k]) zb9 fun x hx=>by simp[h x (zcv.mp hx)]
 have h2:0<(nub L).length:=by
  cases L with
  |nil=>exact absurd rfl h0
  |cons a r=>exact List.length_pos_of_mem (zcv.mpr List.mem_cons_self)
 simp at h1;omega
theorem zom{α:Type}{g:List α}{hf:α->Int}{k:Int}(h0:g≠[])(hl:g.length<=1000)(h: ∀c∈g,hf c=k):zai .nset [.lst (g.map fun c=>.int (hf c))]=some (.val (.int 1)):=by
 have e:(g.map fun c=>D.int (hf c))=(g.map hf).map D.int:=by rw[List.map_map];rfl
 rw[e]
 show zj6 [.lst ((g.map hf).map D.int)]=_
 unfold zj6
 have n1:zeS ((g.map hf).map D.int)=none:=by
  cases g with
  |nil=>exact absurd rfl h0
  |cons a r=>rfl
 simp only[n1,zls,Option.bind_some,List.length_map,if_pos hl]
 rw[zst (k:=k) (by simpa using h0) fun x hx=>by
  obtain⟨c,hc,rfl⟩:=List.mem_map.mp hx
  exact h c hc]
 rfl
theorem zon(hl:OkL l){ms:Ms}{T:zaj->Prop}{k:Int}{cr ar:List zaj}(hm:Match f l ms)(hT:zcm f l ms T)(hk: ∀y,T y->hue l y≠k)(h01:k=0\/k=1)(h:Crowd f l ms T k cr ar): ∀x∈cr,hue l x=k:=fun x hx=>by
 rw[h.is,List.mem_append] at hx
 rcases hx with hx|hx
 ·have:=(List.mem_filter.mp hx).2
  rw[Bool.and_eq_true,decide_eq_true_iff] at this
  exact this.1
 ·obtain⟨y,hy,rfl⟩:=List.mem_map.mp hx
  have ht:=(h.sub y hy).2
  obtain⟨x,e,_⟩:=hT y ht
  rw[zaG e]
  have h1:=hk y ht
  have h2:=zbY hl (hm.inF _ _ e).2.2
  have h3:=zcc (l:=l) y
  have h4:=zcc (l:=l) x
  omega
theorem zoo{ms:Ms}{T:zaj->Prop}{k:Int}{cr ar:List zaj}(h:Crowd f l ms T k cr ar){a:zaj}(ha:a∈f)(hk:hue l a=k)(hg:get ms a=none):ar.length<cr.length:=by
 have:0<(f.filter fun c=>decide (hue l c=k)&& !(get ms c).isSome).length:=List.length_pos_of_mem (List.mem_filter.mpr ⟨ha,by simp[hk,hg]⟩)
 rw[h.is,List.length_append,List.length_map]
 omega
end
end LK
namespace LK
open L2.LW
theorem zlt{α:Type}{g:α->D}{i:Nat}{body:Env->Option (Fl×Env)}(I:List α->Env->Prop){xs:List α}{ρ:Env}(h0:I [] ρ)
  (st: ∀pre x post ρ,xs=pre++x::post->I pre ρ->∃fl ρ',body (ρ.set i (some (.val (g x))))=some (fl,ρ')/\(fl= .nx\/fl= .ct)/\I (pre++[x]) ρ'):
  ∃ρ',zeA i body (xs.map g) ρ=some (.nx,ρ')/\I xs ρ':=by
 have key: ∀(post pre:List α) (ρ:Env),xs=pre++post->I pre ρ->∃ρ',zeA i body (post.map g) ρ=some (.nx,ρ')/\I xs ρ':=by
  intro post
  induction post with
  |nil=>intro pre ρ e h;exact⟨ρ,rfl,by rw[e];simpa using h⟩
  |cons x post ih=>
   intro pre ρ e h
   obtain⟨fl,ρ1,e1,e2,h1⟩:=st pre x post ρ e h
   obtain⟨ρ',e3,h3⟩:=ih (pre++[x]) ρ1 (by simp[e]) h1
   refine⟨ρ',?_,h3⟩
   rw[List.map_cons,zeA,e1]
   simp only[Option.bind_some]
   rcases e2 with rfl|rfl<;>exact e3
 exact key xs [] ρ rfl h0
theorem zzu{a b:zaj}:zai .ge [cD a,cD b]=some (.val (.bl (!decide (cLt a b)))):=by
 have h:=zzh (a:=a) (b:=b)
 have e:L2.LW.lexLt [a.1,a.2] [b.1,b.2]=decide (cLt a b):=by
  have:some (SV.val (.bl (L2.LW.lexLt [a.1,a.2] [b.1,b.2])))=some (.val (.bl (decide (cLt a b)))):=h
  simpa using this
 show some (SV.val (.bl (!L2.LW.lexLt [a.1,a.2] [b.1,b.2])))=_
 rw[e]
section
variable {f:List zaj} {l:zaj}
noncomputable def lwE(ns:List Int)(f:List zaj)(l:zaj)(fo:D)(w:Bool)(s5 s6 s7 s8:Option SV):Env:=
 [some (.val (sD ns)),some (.val (fD f)),some (.val (cD l)),some (.val fo),some (.val (.bl w)),s5,s6,s7,s8]
theorem zp5(n:Nat)(hlen:f.length<=24)(ns:List Int){ms:Ms}(hm:Match f l ms){fo:D}{w:Bool}:
  ∃s6,zeA 6 (zaR (zaq U zat (n+1)) zat zlp) ((prs f ms).map (zbx ms)) (lwE ns f l fo w (some (.obj true (lD []))) none none none)=some (.nx,lwE ns f l fo w (some (.obj true (lD (zcd ms (prs f ms))))) s6 none none):=by
 have hl':=zbl
 obtain⟨ρ',e,s6,rfl,_⟩:=zlt (g:=zbx ms) (i:=6) (body:=zaR (zaq U zat (n+1)) zat zlp)
  (fun pre ρ=>∃s6,ρ=lwE ns f l fo w (some (.obj true (lD (zcd ms pre)))) s6 none none/\zbn (some s6)=true) (xs:=prs f ms) (ρ:=lwE ns f l fo w (some (.obj true (lD []))) none none none) ⟨none,rfl,rfl⟩
  fun pre c post ρ e zz=>by
   obtain⟨s6,eρ,fr⟩:=zz
   subst eρ
   have hc:c∈prs f ms:=by rw[e];simp
   obtain⟨h1,v,hv,hlt⟩:=zbT.mp hc
   have nr:=(hm.inF _ _ hv).2.2
   have lp:pre.length<=24:=by
    have h0:(prs f ms).length<=f.length:=List.length_filter_le _ _
    rw[e,List.length_append] at h0;omega
   have lh: ∀L:List zaj,(zcd ms L).length=2*L.length:=fun L=>by
    induction L with
    |nil=>rfl
    |cons x r ih=>
     show ([x,ze1 ms x]++zcd ms r).length=_
     rw[List.length_append,ih];simp;omega
   have ad:zai .add [lD (zcd ms pre),.lst [cD c,cD v]]=some (.obj true (lD (zcd ms (pre++[c])))):=by
    have:=lh pre
    rw[lD,zlh (by simp;omega)]
    simp[lD,zcd,zaG hv]
   have nk:=zdz n l c v
   refine⟨_,_,?_,.inl rfl,some (.val (zbx ms c)),rfl,zbB⟩
   simp only[zlp,lwE]
   simp[zbx,zaG hv,nk,nr,zzu,hlt,ad]
 exact⟨s6,e⟩
theorem zsu(n:Nat)(hlen:f.length<=24)(ns:List Int){fo:D}{w:Bool}{g:List zaj}(hg:g.length<=24){s5 s6:Option SV}:
  ∃s8,zeA 8 (zaR (zaq U zat (n+2)) zat zlo) (g.map cD) (lwE ns f l fo w s5 s6 (some (.obj true (lD []))) none)=some (.nx,lwE ns f l fo w s5 s6 (some (.obj true (lD (g.flatMap (nb f l))))) s8):=by
 have hl':=zbl
 obtain⟨ρ',e,s8,rfl,_⟩:=zlt (g:=cD) (i:=8) (body:=zaR (zaq U zat (n+2)) zat zlo)
  (fun pre ρ=>∃s8,ρ=lwE ns f l fo w s5 s6 (some (.obj true (lD (pre.flatMap (nb f l))))) s8/\(pre.flatMap (nb f l)).length<=24*pre.length) (xs:=g) (ρ:=lwE ns f l fo w s5 s6 (some (.obj true (lD []))) none) ⟨none,rfl,by simp⟩
  fun pre c post ρ e zz=>by
   obtain⟨s8,eρ,ln⟩:=zz
   subst eρ
   have lp:pre.length<=24:=by
    rw[e,List.length_append] at hg;omega
   have nl:(nb f l c).length<=24:=Nat.le_trans (List.length_filter_le _ _) hlen
   have ad:zai .add [lD (pre.flatMap (nb f l)),lD (nb f l c)]=some (.obj true (lD ((pre++[c]).flatMap (nb f l)))):=by
    rw[lD,lD,zlh (by rw[List.length_map,List.length_map];omega)]
    simp[lD]
   have nk:za7 U zat (n+2) 18 [fD f,cD l,cD c]=some (.obj true (lD (nb f l c))):=zkt n l c (f:=f) (by omega)
   refine⟨_,_,?_,.inl rfl,some (.val (cD c)),rfl,?_⟩
   ·simp only[zlo,lwE]
    simp[nk,ad]
   ·rw[List.flatMap_append,List.length_append,List.length_append,List.flatMap_cons,List.flatMap_nil,List.append_nil,List.length_singleton]
    omega
 exact⟨s8,e⟩
end
theorem zA3:(PySem.Str.ofString "paired"=PySem.Str.ofString "paired")/\¬PySem.Str.ofString "crowd"=PySem.Str.ofString "paired":=by decide+kernel
theorem zop{a b:PySem.Str}:zai .eqS [.str a,.str b]=some (.val (.bl (decide (a=b)))):=rfl
theorem zvI{a b:PySem.Str}:zai .neS [.str a,.str b]=some (.val (.bl (!decide (a=b)))):=rfl
theorem zsv(n:Nat)(ns:List Int):za7 U zat (n+31) 48 [sD ns]=some (.val (.bl true)):=by
 have hl':=zbl
 obtain⟨f,hf,_,e1⟩:=zjh (n+28) ns (at_:=2) (most:=24) (by decide) (by decide) (by decide)
 obtain⟨l,hl,e2⟩:=zks (n+29) (zfT ns 0)
 have hlen:=hf.len
 have hn:=zhK hf
 have c0:=zca (n+29) ns (k:=0) (by decide)
 obtain⟨ms,T,h1,hp⟩:=zol n hl hf
 obtain⟨ms',T',m1,m2⟩:=zhM n hl hf
 have eqn:=zp1 hl hn h1 m1
 have al:=zma hl hn h1.toMatch
 have pl:=zsn hl hn m1.toMatch
 have pm:zai .mul [.int 2,.int ((prs f ms').length:Int)]=some (.val (.int (2*((prs f ms').length:Int)))):=zuX (by omega)
 have lm:=zoj (ms:=ms') (g:=prs f ms')
 have pL:(SV.obj true (.lst ((prs f ms').map (zbx ms')))).plain=true:=zeK fun c=>by simp[zbx]
 generalize (prs f ms').map (zbx ms')=L' at*
 rw[zay U48 rfl]
 rcases hp with ⟨ha,hp⟩|⟨a,T2,cr,ar,g,⟨ha,hg⟩,q1,q2,q3,q4,q5,hp⟩
 ·obtain⟨nd,mem⟩:=zss hl hn h1.toMatch ha
  have w:(2*((prs f ms').length:Int)==(f.length:Int))=true:=by
   rw[ha] at al;simp at al;rw[beq_iff_eq];omega
  have lh:(zcd ms (prs f ms)).length<64:=by have:=zbo nd fun x hx=>(mem x).mp hx;omega
  have ne:zcd ms (prs f ms)≠[]:=fun z=>by
   cases f with
   |nil=>exact hf.ne rfl
   |cons c r=>have:=(mem c).mpr List.mem_cons_self;rw[z] at this;cases this
  have so:zai .sorted [lD (zcd ms (prs f ms))]=some (.obj true (lD f)):=zea ne nd lh hf.rise mem
  have tl:zai .toList [fD f]=some (.obj true (lD f)):=rfl
  have eqf:zai .eq [lD f,lD f]=some (.val (.bl true)):=by
   rw[zuZ (by simp[lD,zby]) (by simp[lD,zby])]
   simp[lD,eqD]
  have lpr:(prs f ms).length<=24:=Nat.le_trans (List.length_filter_le _ _) hlen
  have sp:=zmc (ms:=ms) (L:=prs f ms) (hf.rise.sublist List.filter_sublist) (by omega)
  have eqp:zai .eq [.lst ((prs f ms).map (zbx ms)),.lst ((prs f ms).map (zbx ms))]=some (.val (.bl true)):=by
   rw[zuZ (by simp[zby,zbx]) (by simp[zby,zbx]),eqD,zjq]
  obtain⟨s6,lp⟩:=zp5 (n+29) hlen ns h1.toMatch (fo:=.tup [.str (PySem.Str.ofString "paired"),.lst ((prs f ms).map (zbx ms))]) (w:=true)
  have pe:zai .eqS [.str (PySem.Str.ofString "paired"),.str (PySem.Str.ofString "paired")]=some (.val (.bl true)):=by rw[zop];simp
  generalize hL:(prs f ms).map (zbx ms)=L at*
  generalize hH:zcd ms (prs f ms)=H at*
  simp only[zs2,zcA]
  simp only[lwE] at lp
  rw[show (lD []:D)= .lst [] from rfl] at lp
  simp[e1,c0,e2,hp,m2,lm,pm,zsh,w,pe,lp,so,tl,eqf,sp,eqp,zdO]
 ·have w:(2*((prs f ms').length:Int)==(f.length:Int))=false:=by
   have:0<(f.filter fun c=>(get ms c).isNone).length:=List.length_pos_of_mem (List.mem_filter.mpr ⟨ha,by simp[hg]⟩)
   rw[beq_eq_false_iff_ne];omega
  have ncr:=zfY hn h1.toMatch q1 q3
  have scr:=zjp h1.toMatch q1 q3
  have acr:a∈cr:=by
   rw[q3.is,List.mem_append]
   exact .inl (List.mem_filter.mpr ⟨ha,by simp[hg]⟩)
  have gn:g.Nodup:=OkF.nodup q4
  have gf: ∀x∈g,x∈f:=fun x hx=>scr x ((q5 x).mpr hx)
  have lg:g.length<=24:=Nat.le_trans (zbo gn gf) hlen
  have g0:g≠[]:=fun z=>by have:=(q5 a).mp acr;rw[z] at this;cases this
  have fg:(f.filter fun c=>decide (c∈g))=g:=zd9 (R:=cLt) (fun a=>zdh) (fun a b z1 z2=>zc1 z1 z2) (hf.rise.sublist List.filter_sublist) q4 fun x=>by
   rw[List.mem_filter,decide_eq_true_iff]
   exact⟨fun h=>h.2,fun h=>⟨gf x h,h⟩⟩
  have ch:=zon hl h1.toMatch q1 q2 (zcc a) q3
  have cl2:=zoo q3 ha rfl hg
  have lcg:cr.length<=g.length:=zbo ncr fun x hx=>(q5 x).mp hx
  have near_ar: ∀x∈g.flatMap (nb f l),x∈ar:=fun x hx=>by
   obtain⟨c,hc,hx⟩:=List.mem_flatMap.mp hx
   exact q3.all c ((q5 c).mpr hc) x hx
  have ltn:(nub (g.flatMap (nb f l))).length<g.length:=by
   have:=zbo (l:=nub (g.flatMap (nb f l))) (m:=ar) zb9 fun x hx=>near_ar x (zcv.mp hx)
   omega
  have ns1:=zmd (L:=g.flatMap (nb f l)) fun c hc=>hf.cells c (q3.sub c (near_ar c hc)).1
  have ns2:=zom (g:=g) (hf:=hue l) (k:=hue l a) g0 (by omega) fun c hc=>ch c ((q5 c).mpr hc)
  have pe:zai .eqS [.str (PySem.Str.ofString "crowd"),.str (PySem.Str.ofString "paired")]=some (.val (.bl false)):=by rw[zop];simp[zA3.2]
  have pn:zai .neS [.str (PySem.Str.ofString "crowd"),.str (PySem.Str.ofString "crowd")]=some (.val (.bl false)):=by rw[zvI];simp
  obtain⟨s8,lp⟩:=zsu (n+28) hlen ns (fo:=.tup [.str (PySem.Str.ofString "crowd"),lD g]) (w:=false) (l:=l) lg (s5:=none) (s6:=none)
  simp only[lwE] at lp
  have neg:zai .ne [lD g,lD g]=some (.val (.bl false)):=by
   rw[zAd (by simp[lD,zby]) (by simp[lD,zby])]
   simp[lD,eqD]
  have cmp1: ∀w0:SV,evE (za7 U zat (n+30)) (.comp false (.cons (.var 1) .nil) (.prim .inn (.cons (.var 0) (.cons (.prim .idx (.cons (.var 4) (.cons (.int 1) .nil))) .nil))) (.var 0)) [some (.val (sD ns)),some (.val (fD f)),some (.val (cD l)),some (.val (.tup [.str (PySem.Str.ofString "crowd"),lD g])),some w0,none,none,none,none]=some (.obj true (lD g)):=fun w0=>by
   rw[zbt (rs:=[.val (fD f)]) (xs:=f) (f:=cD) (fun c=>decide (c∈g)) cD]
   ·rw[fg];rfl
   ·simp
   ·rfl
   ·omega
   ·intro x _
    simp[zzi]
   ·intro x _ _;simp
  have cmp2: ∀(w0:SV) (s7 s8:Option SV),evE (za7 U zat (n+30)) (.comp false (.cons (.prim .idx (.cons (.var 3) (.cons (.int 1) .nil))) .nil) (.bl true) (.call 28 (.cons (.var 3) (.cons (.var 0) .nil)))) [some (.val (sD ns)),some (.val (fD f)),some (.val (cD l)),some (.val (.tup [.str (PySem.Str.ofString "crowd"),lD g])),some w0,none,none,s7,s8]=some (.obj true (.lst (g.map fun c=>.int (hue l c)))):=fun w0 s7 s8=>by
   rw[zeH (rs:=[.val (lD g)]) (xs:=g) (f:=cD) (fun c=>.int (hue l c))]
   ·simp
   ·rfl
   ·omega
   ·intro x _
    simp[zmb (n+29) hl]
  have lt:((nub (g.flatMap (nb f l))).length:Int)<(g.length:Int):=by omega
  have ln:=zqZ (g:=g)
  have it:zaI false [SV.val (lD g)]=some (g.map cD):=rfl
  rw[show (lD []:D)= .lst [] from rfl] at lp
  generalize g.flatMap (nb f l)=G at*
  simp only[zs2,zcA]
  simp[e1,c0,e2,hp,m2,lm,pm,zsh,w,pe,pn,lp,neg,cmp1,cmp2,ns1,ns2,ln,lt,zdO,it]
theorem zjs(ns:List Int)(_:ns.length<=63):za7 U zat depth 48 [.lst (ns.map D.int)]=some (.val (.bl true)):=zsv 9 ns
end LK
set_option maxHeartbeats 4000000
namespace LK
open PySem PySem.Spec PyProof.Rows L2 L2.LW
noncomputable def top(i:Nat):Stmt:=PySem.Challenge.pw_leaperwalk_k14_paired_or_a_crowd.main.body.getD i (.Pass ⟨0,0,0,0⟩)
noncomputable def zaL:Nat->List Str
 |0=>["thing","least","most"]
 |1=>["thing"]
 |2=>["thing"]
 |3=>["thing"]
 |4=>["cells"]
 |5=>["thing"]
 |6=>["floor"]
 |7=>["leap"]
 |9=>["down","right"]
 |10=>["leap","one","other"]
 |11=>["floor","leap","cell"]
 |13=>["_law_script","_law_k"]
 |14=>["_law_cell_here","_law_prime","_law_many"]
 |15=>["_law_script","_law_at","_law_most"]
 |16=>["_law_cell_here"]
 |17=>["_law_leap_here","_law_one","_law_other"]
 |18=>["_law_floor_here","_law_leap_here","_law_cell_here"]
 |21=>["leap"]
 |22=>["leap"]
 |23=>["leap","cell"]
 |24=>["floor","leap","hue"]
 |28=>["_law_leap_here","_law_cell_here"]
 |37=>["floor","leap","mates","cell","tried"]
 |38=>["floor","leap"]
 |39=>["floor","mates"]
 |40=>["floor","leap","mates","hue"]
 |43=>["floor","leap"]
 |47=>["floor","leap"]
 |48=>["_law_script"]
 |_=>[]
noncomputable def zdV:Nat->List Nat
 |37=>[2,4]
 |_=>[]
structure Txt (K:PySem.W.Frag)(mg:Str->Option Value)(F:Nat->Addr)(FD:Nat->FuncData)(TK:Nat->Tok):Prop where
 m0:mg "is_whole"=some (.ref (F 0))
 f0:Fun K "is_whole" "is_whole" (top 8) (F 0) (FD 0)
 b0:Binds K (FD 0) (zaL 0) []
 m1:mg "is_couple"=some (.ref (F 1))
 f1:Fun K "is_couple" "is_couple" (top 9) (F 1) (FD 1)
 b1:Binds K (FD 1) (zaL 1) []
 m2:mg "is_cell"=some (.ref (F 2))
 f2:Fun K "is_cell" "is_cell" (top 10) (F 2) (FD 2)
 b2:Binds K (FD 2) (zaL 2) []
 m3:mg "is_leap"=some (.ref (F 3))
 f3:Fun K "is_leap" "is_leap" (top 11) (F 3) (FD 3)
 b3:Binds K (FD 3) (zaL 3) []
 m4:mg "is_rising"=some (.ref (F 4))
 f4:Fun K "is_rising" "is_rising" (top 12) (F 4) (FD 4)
 b4:Binds K (FD 4) (zaL 4) []
 m5:mg "is_floor"=some (.ref (F 5))
 f5:Fun K "is_floor" "is_floor" (top 13) (F 5) (FD 5)
 b5:Binds K (FD 5) (zaL 5) []
 m6:mg "checked"=some (.ref (F 6))
 f6:Fun K "checked" "checked" (top 14) (F 6) (FD 6)
 b6:Binds K (FD 6) (zaL 6) []
 m7:mg "checked_leap"=some (.ref (F 7))
 f7:Fun K "checked_leap" "checked_leap" (top 15) (F 7) (FD 7)
 b7:Binds K (FD 7) (zaL 7) []
 m9:mg "folded"=some (.ref (F 9))
 f9:Fun K "folded" "folded" (top 17) (F 9) (FD 9)
 b9:Binds K (FD 9) (zaL 9) []
 m10:mg "are_near"=some (.ref (F 10))
 f10:Fun K "are_near" "are_near" (top 18) (F 10) (FD 10)
 b10:Binds K (FD 10) (zaL 10) []
 m11:mg "cells_near"=some (.ref (F 11))
 f11:Fun K "cells_near" "cells_near" (top 19) (F 11) (FD 11)
 b11:Binds K (FD 11) (zaL 11) []
 m13:mg "_law_cell"=some (.ref (F 13))
 f13:Fun K "_law_cell" "_law_cell" (top 32) (F 13) (FD 13)
 b13:Binds K (FD 13) (zaL 13) []
 m14:mg "_law_mix"=some (.ref (F 14))
 f14:Fun K "_law_mix" "_law_mix" (top 33) (F 14) (FD 14)
 b14:Binds K (FD 14) (zaL 14) []
 m15:mg "_law_floor"=some (.ref (F 15))
 f15:Fun K "_law_floor" "_law_floor" (top 34) (F 15) (FD 15)
 b15:Binds K (FD 15) (zaL 15) []
 m16:mg "_law_leap"=some (.ref (F 16))
 f16:Fun K "_law_leap" "_law_leap" (top 35) (F 16) (FD 16)
 b16:Binds K (FD 16) (zaL 16) []
 m17:mg "_law_is_near"=some (.ref (F 17))
 f17:Fun K "_law_is_near" "_law_is_near" (top 36) (F 17) (FD 17)
 b17:Binds K (FD 17) (zaL 17) []
 m18:mg "_law_near"=some (.ref (F 18))
 f18:Fun K "_law_near" "_law_near" (top 37) (F 18) (FD 18)
 b18:Binds K (FD 18) (zaL 18) []
 m21:mg "greatest_divisor"=some (.ref (F 21))
 f21:Fun K "greatest_divisor" "greatest_divisor" (top 20) (F 21) (FD 21)
 b21:Binds K (FD 21) (zaL 21) []
 m22:mg "has_odd_sum"=some (.ref (F 22))
 f22:Fun K "has_odd_sum" "has_odd_sum" (top 21) (F 22) (FD 22)
 b22:Binds K (FD 22) (zaL 22) []
 m23:mg "hue_of"=some (.ref (F 23))
 f23:Fun K "hue_of" "hue_of" (top 22) (F 23) (FD 23)
 b23:Binds K (FD 23) (zaL 23) []
 m24:mg "cells_of_hue"=some (.ref (F 24))
 f24:Fun K "cells_of_hue" "cells_of_hue" (top 23) (F 24) (FD 24)
 b24:Binds K (FD 24) (zaL 24) []
 m28:mg "_law_hue"=some (.ref (F 28))
 f28:Fun K "_law_hue" "_law_hue" (top 38) (F 28) (FD 28)
 b28:Binds K (FD 28) (zaL 28) []
 m37:mg "finds_mate"=some (.ref (F 37))
 f37:Fun K "finds_mate" "finds_mate" (top 25) (F 37) (FD 37)
 b37:Binds K (FD 37) (zaL 37) []
 m38:mg "all_mates"=some (.ref (F 38))
 f38:Fun K "all_mates" "all_mates" (top 26) (F 38) (FD 38)
 b38:Binds K (FD 38) (zaL 38) []
 m39:mg "pairs_of"=some (.ref (F 39))
 f39:Fun K "pairs_of" "pairs_of" (top 27) (F 39) (FD 39)
 b39:Binds K (FD 39) (zaL 39) []
 m40:mg "crowd_and_around"=some (.ref (F 40))
 f40:Fun K "crowd_and_around" "crowd_and_around" (top 28) (F 40) (FD 40)
 b40:Binds K (FD 40) (zaL 40) []
 m43:mg "most_pairs"=some (.ref (F 43))
 f43:Fun K "most_pairs" "most_pairs" (top 29) (F 43) (FD 43)
 b43:Binds K (FD 43) (zaL 43) []
 m47:mg "paired"=some (.ref (F 47))
 f47:Fun K "paired" "paired" (top 30) (F 47) (FD 47)
 b47:Binds K (FD 47) (zaL 47) []
 m48:mg "law"=some (.ref (F 48))
 f48:Fun K "law" "law" (top 39) (F 48) (FD 48)
 b48:Binds K (FD 48) (zaL 48) []
 z_isinstance:mg "isinstance"=none
 z_int:mg "int"=none
 z_bool:mg "bool"=none
 z_len:mg "len"=none
 z_tuple:mg "tuple"=none
 z_range:mg "range"=none
 z_all:mg "all"=none
 z_abs:mg "abs"=none
 z_max:mg "max"=none
 z_min:mg "min"=none
 z_sorted:mg "sorted"=none
 z_list:mg "list"=none
 z_set:mg "set"=none
 c0:mg "LAST_LINE"=some (.int 7 (TK 0))
 c1:mg "MOST_CELLS"=some (.int 24 (TK 1))
 c2:mg "LONGEST_LEAP"=some (.int 4 (TK 2))
theorem zp6:(("least":Str)==("__debug__":Str))=false:=by decide+kernel
theorem zp7:(("least":Str)==("__classdict__":Str))=false:=by decide+kernel
theorem zbb:(("thing":Str)==("__debug__":Str))=false:=by decide+kernel
theorem zbc:(("thing":Str)==("__classdict__":Str))=false:=by decide+kernel
theorem zsw:(("most":Str)==("__debug__":Str))=false:=by decide+kernel
theorem zsx:(("most":Str)==("__classdict__":Str))=false:=by decide+kernel
theorem zvJ:(("int":Str)==("__debug__":Str))=false:=by decide+kernel
theorem zvK:("int":Str)≠"__name__":=by decide+kernel
theorem zsy:(("bool":Str)==("__debug__":Str))=false:=by decide+kernel
theorem zsz:("bool":Str)≠"__name__":=by decide+kernel
theorem zdA:(("len":Str)==("__debug__":Str))=false:=by decide+kernel
theorem zdB:("len":Str)≠"__name__":=by decide+kernel
theorem zfu:(("tuple":Str)==("__debug__":Str))=false:=by decide+kernel
theorem zfv:("tuple":Str)≠"__name__":=by decide+kernel
theorem ze2:(("LAST_LINE":Str)==("__debug__":Str))=false:=by decide+kernel
theorem zcK:(("is_whole":Str)==("__debug__":Str))=false:=by decide+kernel
theorem ze3:(("is_couple":Str)==("__debug__":Str))=false:=by decide+kernel
theorem zfZ:(("LONGEST_LEAP":Str)==("__debug__":Str))=false:=by decide+kernel
theorem zhO:(("cells":Str)==("__debug__":Str))=false:=by decide+kernel
theorem zhP:(("cells":Str)==("__classdict__":Str))=false:=by decide+kernel
theorem zlu:(("place":Str)==("__debug__":Str))=false:=by decide+kernel
theorem zlv:(("place":Str)==("__classdict__":Str))=false:=by decide+kernel
theorem zq3:(("all":Str)==("__debug__":Str))=false:=by decide+kernel
theorem zq4:("all":Str)≠"__name__":=by decide+kernel
theorem zjt:(("is_rising":Str)==("__debug__":Str))=false:=by decide+kernel
theorem zsA:(("part":Str)==("__debug__":Str))=false:=by decide+kernel
theorem zsB:(("part":Str)==("__classdict__":Str))=false:=by decide+kernel
theorem zme:(("is_cell":Str)==("__debug__":Str))=false:=by decide+kernel
theorem zhQ:(("MOST_CELLS":Str)==("__debug__":Str))=false:=by decide+kernel
theorem zaX:(("floor":Str)==("__debug__":Str))=false:=by decide+kernel
theorem zaY:(("floor":Str)==("__classdict__":Str))=false:=by decide+kernel
theorem zkw:(("is_floor":Str)==("__debug__":Str))=false:=by decide+kernel
theorem zaT:(("leap":Str)==("__debug__":Str))=false:=by decide+kernel
theorem zaU:(("leap":Str)==("__classdict__":Str))=false:=by decide+kernel
theorem zmf:(("is_leap":Str)==("__debug__":Str))=false:=by decide+kernel
theorem zlw:(("right":Str)==("__debug__":Str))=false:=by decide+kernel
theorem zlx:(("right":Str)==("__classdict__":Str))=false:=by decide+kernel
theorem zha:(("abs":Str)==("__debug__":Str))=false:=by decide+kernel
theorem zhb:("abs":Str)≠"__name__":=by decide+kernel
theorem zoq:(("down":Str)==("__debug__":Str))=false:=by decide+kernel
theorem zor:(("down":Str)==("__classdict__":Str))=false:=by decide+kernel
theorem zos:(("max":Str)==("__debug__":Str))=false:=by decide+kernel
theorem zot:("max":Str)≠"__name__":=by decide+kernel
theorem zvL:(("min":Str)==("__debug__":Str))=false:=by decide+kernel
theorem zvM:("min":Str)≠"__name__":=by decide+kernel
theorem zbp:(("other":Str)==("__debug__":Str))=false:=by decide+kernel
theorem zbq:(("other":Str)==("__classdict__":Str))=false:=by decide+kernel
theorem zq5:(("one":Str)==("__debug__":Str))=false:=by decide+kernel
theorem zq6:(("one":Str)==("__classdict__":Str))=false:=by decide+kernel
theorem zou:(("folded":Str)==("__debug__":Str))=false:=by decide+kernel
theorem zbg:(("cell":Str)==("__debug__":Str))=false:=by decide+kernel
theorem zbh:(("cell":Str)==("__classdict__":Str))=false:=by decide+kernel
theorem zkx:(("are_near":Str)==("__debug__":Str))=false:=by decide+kernel
theorem zf0:(("number":Str)==("__debug__":Str))=false:=by decide+kernel
theorem zf1:(("number":Str)==("__classdict__":Str))=false:=by decide+kernel
theorem zdi:(("divisor":Str)==("__debug__":Str))=false:=by decide+kernel
theorem zdj:(("divisor":Str)==("__classdict__":Str))=false:=by decide+kernel
theorem zce:(("greatest_divisor":Str)==("__debug__":Str))=false:=by decide+kernel
theorem zq7:(("row":Str)==("__debug__":Str))=false:=by decide+kernel
theorem zq8:(("row":Str)==("__classdict__":Str))=false:=by decide+kernel
theorem zgz:(("has_odd_sum":Str)==("__debug__":Str))=false:=by decide+kernel
theorem zov:(("column":Str)==("__debug__":Str))=false:=by decide+kernel
theorem zow:(("column":Str)==("__classdict__":Str))=false:=by decide+kernel
theorem zju:(("hue_of":Str)==("__debug__":Str))=false:=by decide+kernel
theorem zq9:(("hue":Str)==("__debug__":Str))=false:=by decide+kernel
theorem zra:(("hue":Str)==("__classdict__":Str))=false:=by decide+kernel
theorem zeb:(("cells_near":Str)==("__debug__":Str))=false:=by decide+kernel
theorem zhR:(("tried":Str)==("__debug__":Str))=false:=by decide+kernel
theorem zhS:(("tried":Str)==("__classdict__":Str))=false:=by decide+kernel
theorem zbi:(("mates":Str)==("__debug__":Str))=false:=by decide+kernel
theorem zbj:(("mates":Str)==("__classdict__":Str))=false:=by decide+kernel
theorem zec:(("finds_mate":Str)==("__debug__":Str))=false:=by decide+kernel
theorem zc6:(("cells_of_hue":Str)==("__debug__":Str))=false:=by decide+kernel
theorem zf2:(("around":Str)==("__debug__":Str))=false:=by decide+kernel
theorem zf3:(("around":Str)==("__classdict__":Str))=false:=by decide+kernel
theorem zhT:(("crowd":Str)==("__debug__":Str))=false:=by decide+kernel
theorem zhU:(("crowd":Str)==("__classdict__":Str))=false:=by decide+kernel
theorem zox:(("edge":Str)==("__debug__":Str))=false:=by decide+kernel
theorem zoy:(("edge":Str)==("__classdict__":Str))=false:=by decide+kernel
theorem zeL:(("further":Str)==("__debug__":Str))=false:=by decide+kernel
theorem zeM:(("further":Str)==("__classdict__":Str))=false:=by decide+kernel
theorem ze4:(("all_mates":Str)==("__debug__":Str))=false:=by decide+kernel
theorem zf4:(("pairs_of":Str)==("__debug__":Str))=false:=by decide+kernel
theorem zc7:(("checked_leap":Str)==("__debug__":Str))=false:=by decide+kernel
theorem zhc:(("checked":Str)==("__debug__":Str))=false:=by decide+kernel
theorem zp8:(("found":Str)==("__debug__":Str))=false:=by decide+kernel
theorem zp9:(("found":Str)==("__classdict__":Str))=false:=by decide+kernel
theorem zed:(("sorted":Str)==("__debug__":Str))=false:=by decide+kernel
theorem zee:("sorted":Str)≠"__name__":=by decide+kernel
theorem zly:(("alone":Str)==("__debug__":Str))=false:=by decide+kernel
theorem zlz:(("alone":Str)==("__classdict__":Str))=false:=by decide+kernel
theorem zdR:(("crowd_and_around":Str)==("__debug__":Str))=false:=by decide+kernel
theorem zjv:(("_law_k":Str)==("__debug__":Str))=false:=by decide+kernel
theorem zjw:(("_law_k":Str)==("__classdict__":Str))=false:=by decide+kernel
theorem zaZ:(("_law_script":Str)==("__debug__":Str))=false:=by decide+kernel
theorem za0:(("_law_script":Str)==("__classdict__":Str))=false:=by decide+kernel
theorem zau:(("_law_cell_here":Str)==("__debug__":Str))=false:=by decide+kernel
theorem zav:(("_law_cell_here":Str)==("__classdict__":Str))=false:=by decide+kernel
theorem zhV:(("_law_prime":Str)==("__debug__":Str))=false:=by decide+kernel
theorem zhW:(("_law_prime":Str)==("__classdict__":Str))=false:=by decide+kernel
theorem zjx:(("_law_many":Str)==("__debug__":Str))=false:=by decide+kernel
theorem zjy:(("_law_many":Str)==("__classdict__":Str))=false:=by decide+kernel
theorem zaz:(("_law_found":Str)==("__debug__":Str))=false:=by decide+kernel
theorem zaA:(("_law_found":Str)==("__classdict__":Str))=false:=by decide+kernel
theorem zjz:(("_law_most":Str)==("__debug__":Str))=false:=by decide+kernel
theorem zjA:(("_law_most":Str)==("__classdict__":Str))=false:=by decide+kernel
theorem zef:(("_law_right":Str)==("__debug__":Str))=false:=by decide+kernel
theorem zeg:(("_law_right":Str)==("__classdict__":Str))=false:=by decide+kernel
theorem ze5:(("_law_down":Str)==("__debug__":Str))=false:=by decide+kernel
theorem ze6:(("_law_down":Str)==("__classdict__":Str))=false:=by decide+kernel
theorem ze7:(("_law_rows":Str)==("__debug__":Str))=false:=by decide+kernel
theorem ze8:(("_law_rows":Str)==("__classdict__":Str))=false:=by decide+kernel
theorem ze9:(("_law_wide":Str)==("__debug__":Str))=false:=by decide+kernel
theorem zfa:(("_law_wide":Str)==("__classdict__":Str))=false:=by decide+kernel
theorem zf5:(("_law_way":Str)==("__debug__":Str))=false:=by decide+kernel
theorem zf6:(("_law_way":Str)==("__classdict__":Str))=false:=by decide+kernel
theorem zjB:(("_law_seed":Str)==("__debug__":Str))=false:=by decide+kernel
theorem zjC:(("_law_seed":Str)==("__classdict__":Str))=false:=by decide+kernel
theorem zbK:(("_law_mix":Str)==("__debug__":Str))=false:=by decide+kernel
theorem zeh:(("_law_c":Str)==("__debug__":Str))=false:=by decide+kernel
theorem zei:(("_law_c":Str)==("__classdict__":Str))=false:=by decide+kernel
theorem zej:(("_law_r":Str)==("__debug__":Str))=false:=by decide+kernel
theorem zek:(("_law_r":Str)==("__classdict__":Str))=false:=by decide+kernel
theorem zdk:(("_law_at":Str)==("__debug__":Str))=false:=by decide+kernel
theorem zdl:(("_law_at":Str)==("__classdict__":Str))=false:=by decide+kernel
theorem zbN:(("_law_cell":Str)==("__debug__":Str))=false:=by decide+kernel
theorem zjD:(("_law_some":Str)==("__debug__":Str))=false:=by decide+kernel
theorem zjE:(("_law_some":Str)==("__classdict__":Str))=false:=by decide+kernel
theorem zf7:(("_law_one":Str)==("__debug__":Str))=false:=by decide+kernel
theorem zf8:(("_law_one":Str)==("__classdict__":Str))=false:=by decide+kernel
theorem zbZ:(("_law_other":Str)==("__debug__":Str))=false:=by decide+kernel
theorem zb0:(("_law_other":Str)==("__classdict__":Str))=false:=by decide+kernel
theorem zaB:(("_law_leap_here":Str)==("__debug__":Str))=false:=by decide+kernel
theorem zaC:(("_law_leap_here":Str)==("__classdict__":Str))=false:=by decide+kernel
theorem zhX:(("list":Str)==("__debug__":Str))=false:=by decide+kernel
theorem zhY:("list":Str)≠"__name__":=by decide+kernel
theorem zaJ:(("_law_floor_here":Str)==("__debug__":Str))=false:=by decide+kernel
theorem zaK:(("_law_floor_here":Str)==("__classdict__":Str))=false:=by decide+kernel
theorem zc8:(("_law_is_near":Str)==("__debug__":Str))=false:=by decide+kernel
theorem zf9:(("_law_row":Str)==("__debug__":Str))=false:=by decide+kernel
theorem zga:(("_law_row":Str)==("__classdict__":Str))=false:=by decide+kernel
theorem zcp:(("_law_step":Str)==("__debug__":Str))=false:=by decide+kernel
theorem zcq:(("_law_step":Str)==("__classdict__":Str))=false:=by decide+kernel
theorem zgA:(("_law_column":Str)==("__debug__":Str))=false:=by decide+kernel
theorem zgB:(("_law_column":Str)==("__classdict__":Str))=false:=by decide+kernel
theorem zgb:(("_law_d":Str)==("__debug__":Str))=false:=by decide+kernel
theorem zgc:(("_law_d":Str)==("__classdict__":Str))=false:=by decide+kernel
theorem zcO:(("_law_together":Str)==("__debug__":Str))=false:=by decide+kernel
theorem zcP:(("_law_together":Str)==("__classdict__":Str))=false:=by decide+kernel
theorem zky:(("_law_hue":Str)==("__debug__":Str))=false:=by decide+kernel
theorem zjF:(("_law_near":Str)==("__debug__":Str))=false:=by decide+kernel
theorem zcf:(("_law_whole_floor":Str)==("__debug__":Str))=false:=by decide+kernel
theorem zcg:(("_law_whole_floor":Str)==("__classdict__":Str))=false:=by decide+kernel
theorem zfb:(("_law_held":Str)==("__debug__":Str))=false:=by decide+kernel
theorem zfc:(("_law_held":Str)==("__classdict__":Str))=false:=by decide+kernel
theorem zbO:(("_law_pair":Str)==("__debug__":Str))=false:=by decide+kernel
theorem zbP:(("_law_pair":Str)==("__classdict__":Str))=false:=by decide+kernel
theorem zhZ:(("most_pairs":Str)==("__debug__":Str))=false:=by decide+kernel
theorem zoz:(("paired":Str)==("__debug__":Str))=false:=by decide+kernel
theorem zjG:(("_law_leap":Str)==("__debug__":Str))=false:=by decide+kernel
theorem zh0:(("_law_floor":Str)==("__debug__":Str))=false:=by decide+kernel
theorem sc0:FnScope ["thing","least","most"] ["thing","least","most"] (zaa (top 8)):=⟨rfl,rfl,rfl,by decide+kernel,rfl,by decide+kernel,by decide+kernel⟩
theorem zqa:Vis (zaa (top 8)) "least":=.inl (by decide+kernel)
theorem zh1:Vis (zaa (top 8)) "thing":=.inl (by decide+kernel)
theorem zsC:Vis (zaa (top 8)) "most":=.inl (by decide+kernel)
theorem zel:(zaa (top 8)).names.lookup ("isinstance":Str)=some .globalImplicit:=by decide+kernel
theorem zvN:(zaa (top 8)).names.lookup ("int":Str)=some .globalImplicit:=by decide+kernel
theorem zsD:(zaa (top 8)).names.lookup ("bool":Str)=some .globalImplicit:=by decide+kernel
theorem sc1:FnScope ["thing"] ["thing"] (zaa (top 9)):=⟨rfl,rfl,rfl,by decide+kernel,rfl,by decide+kernel,by decide+kernel⟩
theorem zlA:Vis (zaa (top 9)) "thing":=.inl (by decide+kernel)
theorem zvO:(zaa (top 9)).names.lookup ("len":Str)=some .globalImplicit:=by decide+kernel
theorem zh2:(zaa (top 9)).names.lookup ("isinstance":Str)=some .globalImplicit:=by decide+kernel
theorem zqb:(zaa (top 9)).names.lookup ("tuple":Str)=some .globalImplicit:=by decide+kernel
theorem sc2:FnScope ["thing"] ["thing"] (zaa (top 10)):=⟨rfl,rfl,rfl,by decide+kernel,rfl,by decide+kernel,by decide+kernel⟩
theorem zh3:Vis (zaa (top 10)) "thing":=.inl (by decide+kernel)
theorem zfd:(zaa (top 10)).names.lookup ("LAST_LINE":Str)=some .globalImplicit:=by decide+kernel
theorem zgd:(zaa (top 10)).names.lookup ("is_whole":Str)=some .globalImplicit:=by decide+kernel
theorem zjH:(zaa (top 10)).names.lookup ("is_couple":Str)=some .globalImplicit:=by decide+kernel
theorem sc3:FnScope ["thing"] ["thing"] (zaa (top 11)):=⟨rfl,rfl,rfl,by decide+kernel,rfl,by decide+kernel,by decide+kernel⟩
theorem zfw:Vis (zaa (top 11)) "thing":=.inl (by decide+kernel)
theorem zge:(zaa (top 11)).names.lookup ("is_whole":Str)=some .globalImplicit:=by decide+kernel
theorem zgf:(zaa (top 11)).names.lookup ("LONGEST_LEAP":Str)=some .globalImplicit:=by decide+kernel
theorem zjI:(zaa (top 11)).names.lookup ("is_couple":Str)=some .globalImplicit:=by decide+kernel
theorem sc4:FnScope ["cells"] ["cells"] (zaa (top 12)):=⟨rfl,rfl,rfl,by decide+kernel,rfl,by decide+kernel,by decide+kernel⟩
theorem zqc:Vis (zaa (top 12)) "cells":=.inr (.inl (by decide+kernel))
theorem zvP:(zaa (top 12)).names.lookup ("len":Str)=some .globalImplicit:=by decide+kernel
theorem zqd:(zaa (top 12)).names.lookup ("range":Str)=some .globalImplicit:=by decide+kernel
theorem zvQ:(zaa (top 12)).names.lookup ("all":Str)=some .globalImplicit:=by decide+kernel
theorem sc5:FnScope ["thing"] ["thing"] (zaa (top 13)):=⟨rfl,rfl,rfl,by decide+kernel,rfl,by decide+kernel,by decide+kernel⟩
theorem zfx:Vis (zaa (top 13)) "thing":=.inl (by decide+kernel)
theorem zjJ:(zaa (top 13)).names.lookup ("is_rising":Str)=some .globalImplicit:=by decide+kernel
theorem zvR:(zaa (top 13)).names.lookup ("all":Str)=some .globalImplicit:=by decide+kernel
theorem zvS:(zaa (top 13)).names.lookup ("len":Str)=some .globalImplicit:=by decide+kernel
theorem zh4:(zaa (top 13)).names.lookup ("MOST_CELLS":Str)=some .globalImplicit:=by decide+kernel
theorem zh5:(zaa (top 13)).names.lookup ("isinstance":Str)=some .globalImplicit:=by decide+kernel
theorem zqe:(zaa (top 13)).names.lookup ("tuple":Str)=some .globalImplicit:=by decide+kernel
theorem sc6:FnScope ["floor"] ["floor"] (zaa (top 14)):=⟨rfl,rfl,rfl,by decide+kernel,rfl,by decide+kernel,by decide+kernel⟩
theorem zlB:Vis (zaa (top 14)) "floor":=.inl (by decide+kernel)
theorem zkz:(zaa (top 14)).names.lookup ("is_floor":Str)=some .globalImplicit:=by decide+kernel
theorem sc7:FnScope ["leap"] ["leap"] (zaa (top 15)):=⟨rfl,rfl,rfl,by decide+kernel,rfl,by decide+kernel,by decide+kernel⟩
theorem zoA:Vis (zaa (top 15)) "leap":=.inl (by decide+kernel)
theorem zmg:(zaa (top 15)).names.lookup ("is_leap":Str)=some .globalImplicit:=by decide+kernel
theorem sc9:FnScope ["down","right"] ["down","right"] (zaa (top 17)):=⟨rfl,rfl,rfl,by decide+kernel,rfl,by decide+kernel,by decide+kernel⟩
theorem zlC:Vis (zaa (top 17)) "right":=.inl (by decide+kernel)
theorem zoB:Vis (zaa (top 17)) "down":=.inl (by decide+kernel)
theorem zlD:(zaa (top 17)).names.lookup ("abs":Str)=some .globalImplicit:=by decide+kernel
theorem zvT:(zaa (top 17)).names.lookup ("max":Str)=some .globalImplicit:=by decide+kernel
theorem zvU:(zaa (top 17)).names.lookup ("min":Str)=some .globalImplicit:=by decide+kernel
theorem zA4:FnScope ["leap","one","other"] ["leap","one","other"] (zaa (top 18)):=⟨rfl,rfl,rfl,by decide+kernel,rfl,by decide+kernel,by decide+kernel⟩
theorem zjK:Vis (zaa (top 18)) "other":=.inl (by decide+kernel)
theorem zoC:Vis (zaa (top 18)) "one":=.inl (by decide+kernel)
theorem zqf:Vis (zaa (top 18)) "leap":=.inl (by decide+kernel)
theorem zmh:(zaa (top 18)).names.lookup ("folded":Str)=some .globalImplicit:=by decide+kernel
theorem zA5:FnScope ["floor","leap","cell"] ["floor","leap","cell"] (zaa (top 19)):=⟨rfl,rfl,rfl,by decide+kernel,rfl,by decide+kernel,by decide+kernel⟩
theorem zoD:Vis (zaa (top 19)) "floor":=.inl (by decide+kernel)
theorem zA6:FnScope ["_law_script","_law_k"] ["_law_script","_law_k"] (zaa (top 32)):=⟨rfl,rfl,rfl,by decide+kernel,rfl,by decide+kernel,by decide+kernel⟩
theorem zhd:Vis (zaa (top 32)) "_law_k":=.inl (by decide+kernel)
theorem zc9:Vis (zaa (top 32)) "_law_script":=.inl (by decide+kernel)
theorem zsE:(zaa (top 32)).names.lookup ("len":Str)=some .globalImplicit:=by decide+kernel
theorem zA7:FnScope ["_law_cell_here","_law_prime","_law_many"] ["_law_cell_here","_law_prime","_law_many"] (zaa (top 33)):=⟨rfl,rfl,rfl,by decide+kernel,rfl,by decide+kernel,by decide+kernel⟩
theorem zem:Vis (zaa (top 33)) "_law_cell_here":=.inl (by decide+kernel)
theorem zgC:Vis (zaa (top 33)) "_law_prime":=.inl (by decide+kernel)
theorem zh6:Vis (zaa (top 33)) "_law_many":=.inl (by decide+kernel)
theorem zmv:FnScope ["_law_script","_law_at","_law_most","_law_cell_here","_law_rows","_law_wide","_law_down","_law_right","_law_way","_law_found","_law_r","_law_c","_law_seed"] ["_law_script","_law_at","_law_most"] (zaa (top 34)):=⟨rfl,rfl,rfl,by decide+kernel,rfl,by decide+kernel,by decide+kernel⟩
theorem zcw:Vis (zaa (top 34)) "_law_found":=.inl (by decide+kernel)
theorem zh7:Vis (zaa (top 34)) "_law_most":=.inl (by decide+kernel)
theorem zdC:Vis (zaa (top 34)) "_law_right":=.inl (by decide+kernel)
theorem zen:Vis (zaa (top 34)) "_law_down":=.inl (by decide+kernel)
theorem zeo:Vis (zaa (top 34)) "_law_rows":=.inl (by decide+kernel)
theorem zep:Vis (zaa (top 34)) "_law_wide":=.inl (by decide+kernel)
theorem zfe:Vis (zaa (top 34)) "_law_way":=.inl (by decide+kernel)
theorem zh8:Vis (zaa (top 34)) "_law_seed":=.inl (by decide+kernel)
theorem zdm:Vis (zaa (top 34)) "_law_c":=.inl (by decide+kernel)
theorem zdn:Vis (zaa (top 34)) "_law_r":=.inl (by decide+kernel)
theorem zcL:Vis (zaa (top 34)) "_law_at":=.inl (by decide+kernel)
theorem zbC:Vis (zaa (top 34)) "_law_script":=.inl (by decide+kernel)
theorem zbD:Vis (zaa (top 34)) "_law_cell_here":=.inl (by decide+kernel)
theorem zdD:Loc (zaa (top 34)) "_law_found":=.inl (by decide+kernel)
theorem zh9:Loc (zaa (top 34)) "_law_seed":=.inl (by decide+kernel)
theorem zmi:Loc (zaa (top 34)) "_law_c":=.inl (by decide+kernel)
theorem zmj:Loc (zaa (top 34)) "_law_r":=.inl (by decide+kernel)
theorem zjL:Loc (zaa (top 34)) "_law_way":=.inl (by decide+kernel)
theorem zgD:Loc (zaa (top 34)) "_law_right":=.inl (by decide+kernel)
theorem zia:Loc (zaa (top 34)) "_law_down":=.inl (by decide+kernel)
theorem zib:Loc (zaa (top 34)) "_law_wide":=.inl (by decide+kernel)
theorem zic:Loc (zaa (top 34)) "_law_rows":=.inl (by decide+kernel)
theorem zeq:Loc (zaa (top 34)) "_law_cell_here":=.inl (by decide+kernel)
theorem zoE:(zaa (top 34)).names.lookup ("tuple":Str)=some .globalImplicit:=by decide+kernel
theorem zjM:(zaa (top 34)).names.lookup ("range":Str)=some .globalImplicit:=by decide+kernel
theorem zbv:(zaa (top 34)).names.lookup ("_law_mix":Str)=some .globalImplicit:=by decide+kernel
theorem zb1:(zaa (top 34)).names.lookup ("_law_cell":Str)=some .globalImplicit:=by decide+kernel
theorem zAo:FnScope ["_law_cell_here","_law_some"] ["_law_cell_here"] (zaa (top 35)):=⟨rfl,rfl,rfl,by decide+kernel,rfl,by decide+kernel,by decide+kernel⟩
theorem zid:Vis (zaa (top 35)) "_law_some":=.inl (by decide+kernel)
theorem zer:Vis (zaa (top 35)) "_law_cell_here":=.inl (by decide+kernel)
theorem zie:Loc (zaa (top 35)) "_law_some":=.inl (by decide+kernel)
theorem zA8:FnScope ["_law_leap_here","_law_one","_law_other"] ["_law_leap_here","_law_one","_law_other"] (zaa (top 36)):=⟨rfl,rfl,rfl,by decide+kernel,rfl,by decide+kernel,by decide+kernel⟩
theorem zff:Vis (zaa (top 36)) "_law_one":=.inl (by decide+kernel)
theorem zdE:Vis (zaa (top 36)) "_law_other":=.inl (by decide+kernel)
theorem zes:Vis (zaa (top 36)) "_law_leap_here":=.inl (by decide+kernel)
theorem zoF:(zaa (top 36)).names.lookup ("abs":Str)=some .globalImplicit:=by decide+kernel
theorem zmk:(zaa (top 36)).names.lookup ("sorted":Str)=some .globalImplicit:=by decide+kernel
theorem zqg:(zaa (top 36)).names.lookup ("list":Str)=some .globalImplicit:=by decide+kernel
theorem zA9:FnScope ["_law_floor_here","_law_leap_here","_law_cell_here"] ["_law_floor_here","_law_leap_here","_law_cell_here"] (zaa (top 37)):=⟨rfl,rfl,rfl,by decide+kernel,rfl,by decide+kernel,by decide+kernel⟩
theorem zdS:Vis (zaa (top 37)) "_law_floor_here":=.inl (by decide+kernel)
theorem zBa:FnScope ["leap"] ["leap"] (zaa (top 20)):=⟨rfl,rfl,rfl,by decide+kernel,rfl,by decide+kernel,by decide+kernel⟩
theorem zqh:Vis (zaa (top 20)) "leap":=.inr (.inl (by decide+kernel))
theorem zoG:(zaa (top 20)).names.lookup ("range":Str)=some .globalImplicit:=by decide+kernel
theorem zsF:(zaa (top 20)).names.lookup ("max":Str)=some .globalImplicit:=by decide+kernel
theorem zAp:FnScope ["leap","divisor"] ["leap"] (zaa (top 21)):=⟨rfl,rfl,rfl,by decide+kernel,rfl,by decide+kernel,by decide+kernel⟩
theorem zif:Vis (zaa (top 21)) "leap":=.inl (by decide+kernel)
theorem zgg:Vis (zaa (top 21)) "divisor":=.inl (by decide+kernel)
theorem zkA:Loc (zaa (top 21)) "divisor":=.inl (by decide+kernel)
theorem zdo:(zaa (top 21)).names.lookup ("greatest_divisor":Str)=some .globalImplicit:=by decide+kernel
theorem zxJ:FnScope ["leap","cell","divisor","row","column"] ["leap","cell"] (zaa (top 22)):=⟨rfl,rfl,rfl,by decide+kernel,rfl,by decide+kernel,by decide+kernel⟩
theorem zoH:Vis (zaa (top 22)) "row":=.inl (by decide+kernel)
theorem zlE:Vis (zaa (top 22)) "leap":=.inl (by decide+kernel)
theorem zml:Vis (zaa (top 22)) "column":=.inl (by decide+kernel)
theorem zlF:Vis (zaa (top 22)) "cell":=.inl (by decide+kernel)
theorem zgh:Vis (zaa (top 22)) "divisor":=.inl (by decide+kernel)
theorem zmm:Loc (zaa (top 22)) "column":=.inl (by decide+kernel)
theorem zsG:Loc (zaa (top 22)) "row":=.inl (by decide+kernel)
theorem zkB:Loc (zaa (top 22)) "divisor":=.inl (by decide+kernel)
theorem zgi:(zaa (top 22)).names.lookup ("has_odd_sum":Str)=some .globalImplicit:=by decide+kernel
theorem zdp:(zaa (top 22)).names.lookup ("greatest_divisor":Str)=some .globalImplicit:=by decide+kernel
theorem zBb:FnScope ["floor","leap","hue"] ["floor","leap","hue"] (zaa (top 23)):=⟨rfl,rfl,rfl,by decide+kernel,rfl,by decide+kernel,by decide+kernel⟩
theorem zoI:Vis (zaa (top 23)) "floor":=.inl (by decide+kernel)
theorem zxK:FnScope ["_law_leap_here","_law_cell_here","_law_step","_law_row","_law_column"] ["_law_leap_here","_law_cell_here"] (zaa (top 38)):=⟨rfl,rfl,rfl,by decide+kernel,rfl,by decide+kernel,by decide+kernel⟩
theorem zfg:Vis (zaa (top 38)) "_law_row":=.inl (by decide+kernel)
theorem zcr:Vis (zaa (top 38)) "_law_leap_here":=.inr (.inl (by decide+kernel))
theorem zb2:Vis (zaa (top 38)) "_law_step":=.inl (by decide+kernel)
theorem zgj:Vis (zaa (top 38)) "_law_column":=.inl (by decide+kernel)
theorem zcs:Vis (zaa (top 38)) "_law_cell_here":=.inl (by decide+kernel)
theorem zgk:Loc (zaa (top 38)) "_law_column":=.inl (by decide+kernel)
theorem zjN:Loc (zaa (top 38)) "_law_row":=.inl (by decide+kernel)
theorem zig:Loc (zaa (top 38)) "_law_step":=.inl (by decide+kernel)
theorem zoJ:(zaa (top 38)).names.lookup ("range":Str)=some .globalImplicit:=by decide+kernel
theorem zsH:(zaa (top 38)).names.lookup ("max":Str)=some .globalImplicit:=by decide+kernel
theorem zAq:FnScope ["floor","leap","mates","cell","tried","other"] ["floor","leap","mates","cell","tried"] (zaa (top 25)):=⟨rfl,rfl,rfl,by decide+kernel,rfl,by decide+kernel,by decide+kernel⟩
theorem zih:Vis (zaa (top 25)) "cell":=.inl (by decide+kernel)
theorem zlG:Vis (zaa (top 25)) "leap":=.inl (by decide+kernel)
theorem zjO:Vis (zaa (top 25)) "floor":=.inl (by decide+kernel)
theorem zcC:Vis (zaa (top 25)) "other":=.inl (by decide+kernel)
theorem zgl:Vis (zaa (top 25)) "tried":=.inl (by decide+kernel)
theorem zda:Vis (zaa (top 25)) "mates":=.inl (by decide+kernel)
theorem zoK:Loc (zaa (top 25)) "other":=.inl (by decide+kernel)
theorem zgE:(zaa (top 25)).names.lookup ("cells_near":Str)=some .globalImplicit:=by decide+kernel
theorem zgF:(zaa (top 25)).names.lookup ("finds_mate":Str)=some .globalImplicit:=by decide+kernel
theorem zzv:FnScope ["floor","leap","mates","cell"] ["floor","leap"] (zaa (top 26)):=⟨rfl,rfl,rfl,by decide+kernel,rfl,by decide+kernel,by decide+kernel⟩
theorem zjP:Vis (zaa (top 26)) "mates":=.inl (by decide+kernel)
theorem zlH:Vis (zaa (top 26)) "leap":=.inl (by decide+kernel)
theorem zjQ:Vis (zaa (top 26)) "floor":=.inl (by decide+kernel)
theorem zqi:Vis (zaa (top 26)) "cell":=.inl (by decide+kernel)
theorem zqj:Loc (zaa (top 26)) "cell":=.inl (by decide+kernel)
theorem zoL:Loc (zaa (top 26)) "mates":=.inl (by decide+kernel)
theorem zfj:(zaa (top 26)).names.lookup ("cells_of_hue":Str)=some .globalImplicit:=by decide+kernel
theorem zgG:(zaa (top 26)).names.lookup ("finds_mate":Str)=some .globalImplicit:=by decide+kernel
theorem zBc:FnScope ["floor","mates"] ["floor","mates"] (zaa (top 27)):=⟨rfl,rfl,rfl,by decide+kernel,rfl,by decide+kernel,by decide+kernel⟩
theorem zoM:Vis (zaa (top 27)) "floor":=.inl (by decide+kernel)
theorem zqk:FnScope ["floor","leap","mates","hue","crowd","around","edge","further","cell","other"] ["floor","leap","mates","hue"] (zaa (top 28)):=⟨rfl,rfl,rfl,by decide+kernel,rfl,by decide+kernel,by decide+kernel⟩
theorem zeN:Vis (zaa (top 28)) "around":=.inl (by decide+kernel)
theorem zgm:Vis (zaa (top 28)) "crowd":=.inl (by decide+kernel)
theorem zlI:Vis (zaa (top 28)) "edge":=.inl (by decide+kernel)
theorem zdT:Vis (zaa (top 28)) "further":=.inl (by decide+kernel)
theorem zql:Vis (zaa (top 28)) "cell":=.inl (by decide+kernel)
theorem zlJ:Vis (zaa (top 28)) "leap":=.inl (by decide+kernel)
theorem zjR:Vis (zaa (top 28)) "floor":=.inl (by decide+kernel)
theorem zgn:Vis (zaa (top 28)) "other":=.inl (by decide+kernel)
theorem zoN:Vis (zaa (top 28)) "mates":=.inr (.inl (by decide+kernel))
theorem zsI:Vis (zaa (top 28)) "hue":=.inl (by decide+kernel)
theorem zlK:Loc (zaa (top 28)) "edge":=.inl (by decide+kernel)
theorem zoO:Loc (zaa (top 28)) "crowd":=.inl (by decide+kernel)
theorem zoP:Loc (zaa (top 28)) "other":=.inl (by decide+kernel)
theorem zqm:Loc (zaa (top 28)) "cell":=.inl (by decide+kernel)
theorem zkC:Loc (zaa (top 28)) "further":=.inl (by decide+kernel)
theorem zmn:Loc (zaa (top 28)) "around":=.inl (by decide+kernel)
theorem zmo:(zaa (top 28)).names.lookup ("crowd":Str)=some .local:=by decide+kernel
theorem zsJ:(zaa (top 28)).names.lookup ("len":Str)=some .globalImplicit:=by decide+kernel
theorem zgH:(zaa (top 28)).names.lookup ("cells_near":Str)=some .globalImplicit:=by decide+kernel
theorem zfk:(zaa (top 28)).names.lookup ("cells_of_hue":Str)=some .globalImplicit:=by decide+kernel
theorem zBd:FnScope ["floor","leap"] ["floor","leap"] (zaa (top 29)):=⟨rfl,rfl,rfl,by decide+kernel,rfl,by decide+kernel,by decide+kernel⟩
theorem zlL:Vis (zaa (top 29)) "leap":=.inl (by decide+kernel)
theorem zgo:Vis (zaa (top 29)) "floor":=.inl (by decide+kernel)
theorem zii:(zaa (top 29)).names.lookup ("all_mates":Str)=some .globalImplicit:=by decide+kernel
theorem zjS:(zaa (top 29)).names.lookup ("pairs_of":Str)=some .globalImplicit:=by decide+kernel
theorem zfl:(zaa (top 29)).names.lookup ("checked_leap":Str)=some .globalImplicit:=by decide+kernel
theorem zkD:(zaa (top 29)).names.lookup ("checked":Str)=some .globalImplicit:=by decide+kernel
theorem zxL:FnScope ["floor","leap","mates","alone","found"] ["floor","leap"] (zaa (top 30)):=⟨rfl,rfl,rfl,by decide+kernel,rfl,by decide+kernel,by decide+kernel⟩
theorem zoQ:Vis (zaa (top 30)) "found":=.inl (by decide+kernel)
theorem zjT:Vis (zaa (top 30)) "alone":=.inl (by decide+kernel)
theorem zfy:Vis (zaa (top 30)) "leap":=.inl (by decide+kernel)
theorem zjU:Vis (zaa (top 30)) "mates":=.inr (.inl (by decide+kernel))
theorem zdb:Vis (zaa (top 30)) "floor":=.inl (by decide+kernel)
theorem zoR:Loc (zaa (top 30)) "found":=.inl (by decide+kernel)
theorem zoS:Loc (zaa (top 30)) "mates":=.inr (by decide+kernel)
theorem zmp:(zaa (top 30)).names.lookup ("alone":Str)=some .local:=by decide+kernel
theorem zmq:(zaa (top 30)).names.lookup ("sorted":Str)=some .globalImplicit:=by decide+kernel
theorem zmr:(zaa (top 30)).names.lookup ("hue_of":Str)=some .globalImplicit:=by decide+kernel
theorem zdq:(zaa (top 30)).names.lookup ("crowd_and_around":Str)=some .globalImplicit:=by decide+kernel
theorem zsK:(zaa (top 30)).names.lookup ("len":Str)=some .globalImplicit:=by decide+kernel
theorem zjV:(zaa (top 30)).names.lookup ("pairs_of":Str)=some .globalImplicit:=by decide+kernel
theorem zij:(zaa (top 30)).names.lookup ("all_mates":Str)=some .globalImplicit:=by decide+kernel
theorem zfm:(zaa (top 30)).names.lookup ("checked_leap":Str)=some .globalImplicit:=by decide+kernel
theorem zkE:(zaa (top 30)).names.lookup ("checked":Str)=some .globalImplicit:=by decide+kernel
theorem zoT:FnScope ["_law_script","_law_floor_here","_law_leap_here","_law_found","_law_whole_floor","_law_held","_law_pair","_law_together","_law_cell_here"] ["_law_script"] (zaa (top 39)):=⟨rfl,rfl,rfl,by decide+kernel,rfl,by decide+kernel,by decide+kernel⟩
theorem zcD:Vis (zaa (top 39)) "_law_together":=.inl (by decide+kernel)
theorem zaH:Vis (zaa (top 39)) "_law_found":=.inr (.inl (by decide+kernel))
theorem zet:Vis (zaa (top 39)) "_law_cell_here":=.inl (by decide+kernel)
theorem zbm:Vis (zaa (top 39)) "_law_leap_here":=.inr (.inl (by decide+kernel))
theorem zaN:Vis (zaa (top 39)) "_law_floor_here":=.inl (by decide+kernel)
theorem zbV:Vis (zaa (top 39)) "_law_whole_floor":=.inl (by decide+kernel)
theorem zeu:Vis (zaa (top 39)) "_law_held":=.inl (by decide+kernel)
theorem zbE:Vis (zaa (top 39)) "_law_pair":=.inl (by decide+kernel)
theorem zdc:Vis (zaa (top 39)) "_law_script":=.inl (by decide+kernel)
theorem zcE:Loc (zaa (top 39)) "_law_together":=.inl (by decide+kernel)
theorem zev:Loc (zaa (top 39)) "_law_cell_here":=.inl (by decide+kernel)
theorem zew:Loc (zaa (top 39)) "_law_held":=.inl (by decide+kernel)
theorem zik:Loc (zaa (top 39)) "_law_pair":=.inl (by decide+kernel)
theorem zdr:Loc (zaa (top 39)) "_law_whole_floor":=.inl (by decide+kernel)
theorem zgI:Loc (zaa (top 39)) "_law_found":=.inr (by decide+kernel)
theorem zex:Loc (zaa (top 39)) "_law_leap_here":=.inr (by decide+kernel)
theorem zdU:Loc (zaa (top 39)) "_law_floor_here":=.inl (by decide+kernel)
theorem zeO:(zaa (top 39)).names.lookup ("len":Str)=some .globalImplicit:=by decide+kernel
theorem zoU:(zaa (top 39)).names.lookup ("set":Str)=some .globalImplicit:=by decide+kernel
theorem zil:(zaa (top 39)).names.lookup ("_law_near":Str)=some .globalImplicit:=by decide+kernel
theorem zhe:(zaa (top 39)).names.lookup ("sorted":Str)=some .globalImplicit:=by decide+kernel
theorem zim:(zaa (top 39)).names.lookup ("list":Str)=some .globalImplicit:=by decide+kernel
theorem zfn:(zaa (top 39)).names.lookup ("_law_is_near":Str)=some .globalImplicit:=by decide+kernel
theorem zgJ:(zaa (top 39)).names.lookup ("most_pairs":Str)=some .globalImplicit:=by decide+kernel
theorem zdF:(zaa (top 39)).names.lookup ("isinstance":Str)=some .globalImplicit:=by decide+kernel
theorem zoV:(zaa (top 39)).names.lookup ("tuple":Str)=some .globalImplicit:=by decide+kernel
theorem zms:(zaa (top 39)).names.lookup ("paired":Str)=some .globalImplicit:=by decide+kernel
theorem zin:(zaa (top 39)).names.lookup ("_law_cell":Str)=some .globalImplicit:=by decide+kernel
theorem zio:(zaa (top 39)).names.lookup ("_law_leap":Str)=some .globalImplicit:=by decide+kernel
theorem zgK:(zaa (top 39)).names.lookup ("_law_floor":Str)=some .globalImplicit:=by decide+kernel
section
variable {Pg:Program} {w:World} {K:PySem.W.Frag} {mg:Str->Option Value} {base:Heap} {F:Nat->Addr} {FD:Nat->FuncData} {TK:Nat->Tok} {n fuel:Nat}
theorem zzw(T:Txt K mg F FD TK)(hall: ∀i,FnOk Pg w K mg base CX0 n (F i) (FD i) (zaL i) (spA K (zaq U fuel n) i (zdV i)))(cdv:Value)(A:Around)(outer:List PySem.Env)(s:Shared)(H:Hp)(E:XK)
  (hr:Room n (A.deeper (envOfC "is_whole" (zaa (top 8)) s.heap.objs.size (F 0) cdv))):
  ISs (zcR CX0 Pg w K mg base ["thing","least","most"] "is_whole" (zaa (top 8)) (F 0) cdv A outer s H E).nox (zaR (zaq U fuel n) fuel ir0) (zag (top 8)):=
 (zaf (zir (IW.t (zrQ (zeD (zgV (t:=.bool) zel T.z_isinstance zsD T.z_bool PyProof.Rows.boot_bool (zae 0 rfl zh1 zbb zbc) zsz zsy zab zab (zak zab zam)) (zfH _ _) zbR) (zlS (zhu (zeD (zgV (t:=.int) zel T.z_isinstance zvN T.z_int PyProof.Rows.boot_int (zae 0 rfl zh1 zbb zbc) zvK zvJ zab zab (zak zab zam)) (zfH _ _) zbR))))) (zaf (zbf zoY)
  zap) zap)
  (zaf (zbf (zrO zpo zpo (zae 1 rfl zqa zp6 zp7) (zae 0 rfl zh1 zbb zbc) (zae 2 rfl zsC zsw zsx)))
  zap))
theorem zzx(T:Txt K mg F FD TK)(hall: ∀i,FnOk Pg w K mg base CX0 n (F i) (FD i) (zaL i) (spA K (zaq U fuel n) i (zdV i)))(cdv:Value)(A:Around)(outer:List PySem.Env)(s:Shared)(H:Hp)(E:XK)
  (hr:Room n (A.deeper (envOfC "is_couple" (zaa (top 9)) s.heap.objs.size (F 1) cdv))):
  ISs (zcR CX0 Pg w K mg base ["thing"] "is_couple" (zaa (top 9)) (F 1) cdv A outer s H E).nox (zaR (zaq U fuel n) fuel ir1) (zag (top 9)):=
 (zaf (zbf (ziL (zgV (t:=.tuple) zh2 T.z_isinstance zqb T.z_tuple PyProof.Rows.boot_tuple (zae 0 rfl zlA zbb zbc) zfv zfu zab zab (zak zab zam)) (znf (zhr (zdL hr.units) (zaP zdu zvO T.z_len PySem.boot_len (zad (zae 0 rfl zlA zbb zbc) zao zab) zdB zdA zab zam) zal (zbd _)))))
  zap)
theorem zzy(T:Txt K mg F FD TK)(hall: ∀i,FnOk Pg w K mg base CX0 n (F i) (FD i) (zaL i) (spA K (zaq U fuel n) i (zdV i)))(cdv:Value)(A:Around)(outer:List PySem.Env)(s:Shared)(H:Hp)(E:XK)
  (hr:Room n (A.deeper (envOfC "is_cell" (zaa (top 10)) s.heap.objs.size (F 2) cdv))):
  ISs (zcR CX0 Pg w K mg base ["thing"] "is_cell" (zaa (top 10)) (F 2) cdv A outer s H E).nox (zaR (zaq U fuel n) fuel ir2) (zag (top 10)):=
 (zaf (zbf (ziL (zaE (zar (hall 1) rfl) hr zjH T.m1 T.f1.kp (T.b1) (zad (zae 0 rfl zh3 zbb zbc) zao zab) ze3 zab zam) (ziL (zaE (zar (hall 0) rfl) hr zgd T.m0 T.f0.kp (T.b0) (zad (zbQ hr.units (zae 0 rfl zh3 zbb zbc) zal (fun _ _=>rfl)) (zad zal (zad (zhq zfd T.c0 ze2) zao zab) zac) zah) zcK zah (zak zac (zak zab zam))) (znf (zaE (zar (hall 0) rfl) hr zgd T.m0 T.f0.kp (T.b0) (zad (zbQ hr.units (zae 0 rfl zh3 zbb zbc) zal (fun _ _=>rfl)) (zad zal (zad (zhq zfd T.c0 ze2) zao zab) zac) zah) zcK zah (zak zac (zak zab zam)))))))
  zap)
theorem zzz(T:Txt K mg F FD TK)(hall: ∀i,FnOk Pg w K mg base CX0 n (F i) (FD i) (zaL i) (spA K (zaq U fuel n) i (zdV i)))(cdv:Value)(A:Around)(outer:List PySem.Env)(s:Shared)(H:Hp)(E:XK)
  (hr:Room n (A.deeper (envOfC "is_leap" (zaa (top 11)) s.heap.objs.size (F 3) cdv))):
  ISs (zcR CX0 Pg w K mg base ["thing"] "is_leap" (zaa (top 11)) (F 3) cdv A outer s H E).nox (zaR (zaq U fuel n) fuel ir3) (zag (top 11)):=
 (zaf (zbf (ziL (zaE (zar (hall 1) rfl) hr zjI T.m1 T.f1.kp (T.b1) (zad (zae 0 rfl zfw zbb zbc) zao zab) ze3 zab zam) (ziL (zaE (zar (hall 0) rfl) hr zge T.m0 T.f0.kp (T.b0) (zad (zbQ hr.units (zae 0 rfl zfw zbb zbc) zal (fun _ _=>rfl)) (zad zal (zad (zhq zgf T.c2 zfZ) zao zab) zac) zah) zcK zah (zak zac (zak zab zam))) (znf (zaE (zar (hall 0) rfl) hr zge T.m0 T.f0.kp (T.b0) (zad (zbQ hr.units (zae 0 rfl zfw zbb zbc) zal (fun _ _=>rfl)) (zad zal (zad (zbQ hr.units (zae 0 rfl zfw zbb zbc) zal (fun _ _=>rfl)) zao zah) zac) zah) zcK zah (zak zac (zak zah zam)))))))
  zap)
theorem zzA(T:Txt K mg F FD TK)(hall: ∀i,FnOk Pg w K mg base CX0 n (F i) (FD i) (zaL i) (spA K (zaq U fuel n) i (zdV i)))(cdv:Value)(A:Around)(outer:List PySem.Env)(s:Shared)(H:Hp)(E:XK)
  (hr:Room n (A.deeper (envOfC "is_rising" (zaa (top 12)) s.heap.objs.size (F 4) cdv))):
  ISs (zcR CX0 Pg w K mg base ["cells"] "is_rising" (zaa (top 12)) (F 4) cdv A outer s H E).nox (zaR (zaq U fuel n) fuel ir4) (zag (top 12)):=
 (zaf (zbf (zaP (zqG rfl) zvQ T.z_all (by decide+kernel) (zad (zdx rfl (zcN (sc:=zaa (top 12)) (N:=["cells"]) rfl rfl (by decide+kernel)) (zhz zqd T.z_range (zad zal (zad (zaP zdu zvP T.z_len PySem.boot_len (zad (zae 0 rfl zqc zhO zhP) zao zab) zdB zdA zab zam) zao zas) zac) zac zas) (.inl ⟨rfl,rfl⟩) (fun _ _ _ _=>(zhr (zpn hr.units) (zbQ hr.units (zae 1 rfl (zaW (by decide+kernel)) zhO zhP) (zbF zeT (zae 0 rfl (zaM (by decide+kernel)) zlu zlv) zal) (fun _ _=>rfl)) (zbQ hr.units (zae 1 rfl (zaW (by decide+kernel)) zhO zhP) (zae 0 rfl (zaM (by decide+kernel)) zlu zlv) (fun _ _=>rfl)) (zbd _)))) zao zaV) zq4 zq3 zaV zam))
  zap)
theorem zzB(T:Txt K mg F FD TK)(hall: ∀i,FnOk Pg w K mg base CX0 n (F i) (FD i) (zaL i) (spA K (zaq U fuel n) i (zdV i)))(cdv:Value)(A:Around)(outer:List PySem.Env)(s:Shared)(H:Hp)(E:XK)
  (hr:Room n (A.deeper (envOfC "is_floor" (zaa (top 13)) s.heap.objs.size (F 5) cdv))):
  ISs (zcR CX0 Pg w K mg base ["thing"] "is_floor" (zaa (top 13)) (F 5) cdv A outer s H E).nox (zaR (zaq U fuel n) fuel ir5) (zag (top 13)):=
 (zaf (zir (IW.t (zrQ (zhu (zeD (zgV (t:=.tuple) zh5 T.z_isinstance zqe T.z_tuple PyProof.Rows.boot_tuple (zae 0 rfl zfx zbb zbc) zfv zfu zab zab (zak zab zam)) (zfH _ _) zbR)) (zlS (zhu (zrR rfl rfl zpo zpo zal (zaP zdu zvS T.z_len PySem.boot_len (zad (zae 0 rfl zfx zbb zbc) zao zab) zdB zdA zab zam) (zhq zh4 T.c1 zhQ)))))) (zaf (zbf zoY)
  zap) zap)
  (zaf (zbf (ziL (zaP (zqG rfl) zvR T.z_all (by decide+kernel) (zad (zdx rfl (zcN (sc:=zaa (top 13)) (N:=["thing"]) rfl rfl (by decide+kernel)) (zbz (zae 0 rfl zfx zbb zbc)) (.inl ⟨rfl,rfl⟩) (fun _ _ _ _=>(zaE (zar (hall 2) rfl) hr (zfK (by decide+kernel)) T.m2 T.f2.kp (T.b2) (zad (zae 0 rfl (zaM (by decide+kernel)) zsA zsB) zao zab) zme zab zam))) zao zaV) zq4 zq3 zaV zam) (znf (zaE (zar (hall 4) rfl) hr zjJ T.m4 T.f4.kp (T.b4) (zad (zae 0 rfl zfx zbb zbc) zao zab) zjt zab zam))))
  zap))
theorem zzC(T:Txt K mg F FD TK)(hall: ∀i,FnOk Pg w K mg base CX0 n (F i) (FD i) (zaL i) (spA K (zaq U fuel n) i (zdV i)))(cdv:Value)(A:Around)(outer:List PySem.Env)(s:Shared)(H:Hp)(E:XK)
  (hr:Room n (A.deeper (envOfC "checked" (zaa (top 14)) s.heap.objs.size (F 6) cdv))):
  ISs (zcR CX0 Pg w K mg base ["floor"] "checked" (zaa (top 14)) (F 6) cdv A outer s H E).nox (zaR (zaq U fuel n) fuel ir6) (zag (top 14)):=
 (zaf (zir (zhu (zeD (zaE (zar (hall 5) rfl) hr zkz T.m5 T.f5.kp (T.b5) (zad (zae 0 rfl zlB zaX zaY) zao zab) zkw zab zam) (zeE _ _) zbR)) (zaf zqC
  zap) zap)
  (zaf (znl 0 rfl zlB zaX zaY)
  zap))
theorem zzD(T:Txt K mg F FD TK)(hall: ∀i,FnOk Pg w K mg base CX0 n (F i) (FD i) (zaL i) (spA K (zaq U fuel n) i (zdV i)))(cdv:Value)(A:Around)(outer:List PySem.Env)(s:Shared)(H:Hp)(E:XK)
  (hr:Room n (A.deeper (envOfC "checked_leap" (zaa (top 15)) s.heap.objs.size (F 7) cdv))):
  ISs (zcR CX0 Pg w K mg base ["leap"] "checked_leap" (zaa (top 15)) (F 7) cdv A outer s H E).nox (zaR (zaq U fuel n) fuel ir7) (zag (top 15)):=
 (zaf (zir (zhu (zeD (zaE (zar (hall 3) rfl) hr zmg T.m3 T.f3.kp (T.b3) (zad (zae 0 rfl zoA zaT zaU) zao zab) zmf zab zam) (zeE _ _) zbR)) (zaf zqC
  zap) zap)
  (zaf (znl 0 rfl zoA zaT zaU)
  zap))
theorem zzE(T:Txt K mg F FD TK)(hall: ∀i,FnOk Pg w K mg base CX0 n (F i) (FD i) (zaL i) (spA K (zaq U fuel n) i (zdV i)))(cdv:Value)(A:Around)(outer:List PySem.Env)(s:Shared)(H:Hp)(E:XK)
  (hr:Room n (A.deeper (envOfC "folded" (zaa (top 17)) s.heap.objs.size (F 9) cdv))):
  ISs (zcR CX0 Pg w K mg base ["down","right"] "folded" (zaa (top 17)) (F 9) cdv A outer s H E).nox (zaR (zaq U fuel n) fuel ir9) (zag (top 17)):=
 (zaf (zbf (zbL (zad (zaP (zrM rfl) zvU T.z_min PyProof.Rows.boot_min (zad (zaP zgS zlD T.z_abs (by decide+kernel) (zad (zae 0 rfl zoB zoq zor) zao zab) zhb zha zab zam) (zad (zaP zgS zlD T.z_abs (by decide+kernel) (zad (zae 1 rfl zlC zlw zlx) zao zab) zhb zha zab zam) zao zas) zas) zvM zvL zas (zak zas zam)) (zad (zaP (zrN rfl) zvT T.z_max PyProof.Rows.boot_max (zad (zaP zgS zlD T.z_abs (by decide+kernel) (zad (zae 0 rfl zoB zoq zor) zao zab) zhb zha zab zam) (zad (zaP zgS zlD T.z_abs (by decide+kernel) (zad (zae 1 rfl zlC zlw zlx) zao zab) zhb zha zab zam) zao zas) zas) zot zos zas (zak zas zam)) zao zas) zas)))
  zap)
theorem zvV(T:Txt K mg F FD TK)(hall: ∀i,FnOk Pg w K mg base CX0 n (F i) (FD i) (zaL i) (spA K (zaq U fuel n) i (zdV i)))(cdv:Value)(A:Around)(outer:List PySem.Env)(s:Shared)(H:Hp)(E:XK)
  (hr:Room n (A.deeper (envOfC "are_near" (zaa (top 18)) s.heap.objs.size (F 10) cdv))):
  ISs (zcR CX0 Pg w K mg base ["leap","one","other"] "are_near" (zaa (top 18)) (F 10) cdv A outer s H E).nox (zaR (zaq U fuel n) fuel zve) (zag (top 18)):=
 (zaf (zbf (zhr (zdL hr.units) (zaE (zar (hall 9) rfl) hr zmh T.m9 T.f9.kp (T.b9) (zad (zbF zeT (zbQ hr.units (zae 2 rfl zjK zbp zbq) zal (fun _ _=>rfl)) (zbQ hr.units (zae 1 rfl zoC zq5 zq6) zal (fun _ _=>rfl))) (zad (zbF zeT (zbQ hr.units (zae 2 rfl zjK zbp zbq) zal (fun _ _=>rfl)) (zbQ hr.units (zae 1 rfl zoC zq5 zq6) zal (fun _ _=>rfl))) zao zax) zax) zou zax (zak zax zam)) (zae 0 rfl zqf zaT zaU) (zbd _)))
  zap)
theorem zvW(T:Txt K mg F FD TK)(hall: ∀i,FnOk Pg w K mg base CX0 n (F i) (FD i) (zaL i) (spA K (zaq U fuel n) i (zdV i)))(cdv:Value)(A:Around)(outer:List PySem.Env)(s:Shared)(H:Hp)(E:XK)
  (hr:Room n (A.deeper (envOfC "cells_near" (zaa (top 19)) s.heap.objs.size (F 11) cdv))):
  ISs (zcR CX0 Pg w K mg base ["floor","leap","cell"] "cells_near" (zaa (top 19)) (F 11) cdv A outer s H E).nox (zaR (zaq U fuel n) fuel zvf) (zag (top 19)):=
 (zaf (zbf (zdx rfl (zcN (sc:=zaa (top 19)) (N:=["floor","leap","cell"]) rfl rfl (by decide+kernel)) (zbz (zae 0 rfl zoD zaX zaY)) (.inr ⟨_,rfl,fun _ _ _ _=>(zeD (zaE (zar (hall 10) rfl) hr (zfK (by decide+kernel)) T.m10 T.f10.kp (T.b10) (zad (zae 2 rfl (zaW (by decide+kernel)) zaT zaU) (zad (zae 3 rfl (zaW (by decide+kernel)) zbg zbh) (zad (zae 0 rfl (zaM (by decide+kernel)) zbp zbq) zao zab) zab) zab) zkx zab (zak zab (zak zab zam))) (zeE _ _) zbR)⟩) (fun _ _ _ _=>(zae 0 rfl (zaM (by decide+kernel)) zbp zbq))))
  zap)
theorem zvX(T:Txt K mg F FD TK)(hall: ∀i,FnOk Pg w K mg base CX0 n (F i) (FD i) (zaL i) (spA K (zaq U fuel n) i (zdV i)))(cdv:Value)(A:Around)(outer:List PySem.Env)(s:Shared)(H:Hp)(E:XK)
  (hr:Room n (A.deeper (envOfC "_law_cell" (zaa (top 32)) s.heap.objs.size (F 13) cdv))):
  ISs (zcR CX0 Pg w K mg base ["_law_script","_law_k"] "_law_cell" (zaa (top 32)) (F 13) cdv A outer s H E).nox (zaR (zaq U fuel n) fuel zvg) (zag (top 32)):=
 (zaf (zir (zbS rfl (zpn hr.units) (zae 1 rfl zhd zjv zjw) (zaP zdu zsE T.z_len PySem.boot_len (zad (zae 0 rfl zc9 zaZ za0) zao zab) zdB zdA zab zam) (zbd _)) (zaf (zbf (zbQ hr.units (zae 0 rfl zc9 zaZ za0) (zae 1 rfl zhd zjv zjw) (fun _ _=>rfl)))
  zap) zap)
  (zaf (zbf zal)
  zap))
theorem zvY(T:Txt K mg F FD TK)(hall: ∀i,FnOk Pg w K mg base CX0 n (F i) (FD i) (zaL i) (spA K (zaq U fuel n) i (zdV i)))(cdv:Value)(A:Around)(outer:List PySem.Env)(s:Shared)(H:Hp)(E:XK)
  (hr:Room n (A.deeper (envOfC "_law_mix" (zaa (top 33)) s.heap.objs.size (F 14) cdv))):
  ISs (zcR CX0 Pg w K mg base ["_law_cell_here","_law_prime","_law_many"] "_law_mix" (zaa (top 33)) (F 14) cdv A outer s H E).nox (zaR (zaq U fuel n) fuel zvh) (zag (top 33)):=
 (zaf (zbf (zbF zci (zbF zci (zbF zfF (zae 0 rfl zem zau zav) zal) (zae 1 rfl zgC zhV zhW)) (zae 2 rfl zh6 zjx zjy)))
  zap)
theorem zvZ(T:Txt K mg F FD TK)(hall: ∀i,FnOk Pg w K mg base CX0 n (F i) (FD i) (zaL i) (spA K (zaq U fuel n) i (zdV i)))(cdv:Value)(A:Around)(outer:List PySem.Env)(s:Shared)(H:Hp)(E:XK)
  (hr:Room n (A.deeper (envOfC "_law_floor" (zaa (top 34)) s.heap.objs.size (F 15) cdv))):
  ISs (zcR CX0 Pg w K mg base ["_law_script","_law_at","_law_most","_law_cell_here","_law_rows","_law_wide","_law_down","_law_right","_law_way","_law_found","_law_r","_law_c","_law_seed"] "_law_floor" (zaa (top 34)) (F 15) cdv A outer s H E).nox (zaR (zaq U fuel n) fuel zvi) (zag (top 34)):=
 (zaf (zbu 3 zmv.nd rfl zeq (zaE (zar (hall 13) rfl) hr zb1 T.m13 T.f13.kp (T.b13) (zad (zae 0 rfl zbC zaZ za0) (zad (zae 1 rfl zcL zdk zdl) zao zab) zab) zbN zab (zak zab zam)))
  (zaf (zbu 4 zmv.nd rfl zic (zbF zbs zal (zaE (zar (hall 14) rfl) hr zbv T.m14 T.f14.kp (T.b14) (zad (zae 3 rfl zbD zau zav) (zad zal (zad zal zao zac) zac) zab) zbK zab (zak zac (zak zac zam)))))
  (zaf (zbu 5 zmv.nd rfl zib (zbF zbs zal (zaE (zar (hall 14) rfl) hr zbv T.m14 T.f14.kp (T.b14) (zad (zae 3 rfl zbD zau zav) (zad zal (zad zal zao zac) zac) zab) zbK zab (zak zac (zak zac zam)))))
  (zaf (zbu 6 zmv.nd rfl zia (zaE (zar (hall 14) rfl) hr zbv T.m14 T.f14.kp (T.b14) (zad (zaE (zar (hall 13) rfl) hr zb1 T.m13 T.f13.kp (T.b13) (zad (zae 0 rfl zbC zaZ za0) (zad (zbF zbs (zae 1 rfl zcL zdk zdl) zal) zao zax) zab) zbN zab (zak zax zam)) (zad zal (zad (zbF zeT zal (zae 4 rfl zeo ze7 ze8)) zao zax) zac) zas) zbK zas (zak zac (zak zax zam))))
  (zaf (zbu 7 zmv.nd rfl zgD (zaE (zar (hall 14) rfl) hr zbv T.m14 T.f14.kp (T.b14) (zad (zaE (zar (hall 13) rfl) hr zb1 T.m13 T.f13.kp (T.b13) (zad (zae 0 rfl zbC zaZ za0) (zad (zbF zbs (zae 1 rfl zcL zdk zdl) zal) zao zax) zab) zbN zab (zak zax zam)) (zad zal (zad (zbF zeT zal (zae 5 rfl zep ze9 zfa)) zao zax) zac) zas) zbK zas (zak zac (zak zax zam))))
  (zaf (zbu 8 zmv.nd rfl zjL (zaE (zar (hall 14) rfl) hr zbv T.m14 T.f14.kp (T.b14) (zad (zbF zbs (zae 3 rfl zbD zau zav) zal) (zad zal (zad zal zao zac) zac) zax) zbK zax (zak zac (zak zac zam))))
  (zaf (zbu 9 zmv.nd rfl zdD (zgu zao))
  (zaf (zkd 10 PassesOwn.never rfl zmv.nd rfl zmj (zk0 zjM T.z_range (zad (zae 4 rfl zeo ze7 ze8) zao zab) zab) (zaf (zkd 11 PassesOwn.never rfl zmv.nd rfl zmi (zk0 zjM T.z_range (zad (zae 5 rfl zep ze9 zfa) zao zab) zab) (zaf (zbu 12 zmv.nd rfl zh9 (zbF zbs (zbF zbs (zaE (zar (hall 13) rfl) hr zb1 T.m13 T.f13.kp (T.b13) (zad (zae 0 rfl zbC zaZ za0) (zad (zbF zbs (zbF zbs (zae 1 rfl zcL zdk zdl) zal) (zbF zci (zbF zbs (zae 10 rfl zdn zej zek) (zbF zfF zal (zae 11 rfl zdm zeh zei))) zal)) zao zax) zab) zbN zab (zak zax zam)) (zbF zfF (zbF zfF zal (zae 10 rfl zdn zej zek)) (zae 10 rfl zdn zej zek))) (zbF zfF (zbF zfF zal (zae 11 rfl zdm zeh zei)) (zae 11 rfl zdm zeh zei))))
  (zaf (zir (IW.t (zrQ (zbS rfl (zdL hr.units) (zae 8 rfl zfe zf5 zf6) zal (zbd _)) (zlS (zbS rfl zt2 (zaE (zar (hall 14) rfl) hr zbv T.m14 T.f14.kp (T.b14) (zad (zae 12 rfl zh8 zjB zjC) (zad zal (zad (zbQ hr.units (zgu (zad zal (zad zal (zad zal zao zac) zac) zac)) (zbF zeT (zae 8 rfl zfe zf5 zf6) zal) (fun _ _=>rfl)) zao zah) zac) zab) zbK zab (zak zac (zak zah zam))) zal (zbd _))))) (zaf (zrS 9 rfl zcw (zbL (zad (zbF zbs (zae 6 rfl zen ze5 ze6) (zae 10 rfl zdn zej zek)) (zad (zbF zbs (zae 7 rfl zdC zef zeg) (zae 11 rfl zdm zeh zei)) zao zax) zax)) zaD zaz zaA)
  zap) zap)
  zap)))
  zap))
  (zaf (zir (zhu (zeD (zae 9 rfl zcw zaz zaA) (zqB _) znc)) (zaf (zbu 9 zmv.nd rfl zdD (zgu (zad (zbL (zad (zae 6 rfl zen ze5 ze6) (zad (zae 7 rfl zdC zef zeg) zao zab) zab)) zao zaD)))
  zap) zap)
  (zaf (zbf (zfr zpp zoE T.z_tuple PyProof.Rows.boot_tuple (zad (zrY (zae 9 rfl zcw zaz zaA) (zae 2 rfl zh7 zjz zjA)) zao zah) zfv zfu zah zam))
  zap))))))))))
theorem zv0(T:Txt K mg F FD TK)(hall: ∀i,FnOk Pg w K mg base CX0 n (F i) (FD i) (zaL i) (spA K (zaq U fuel n) i (zdV i)))(cdv:Value)(A:Around)(outer:List PySem.Env)(s:Shared)(H:Hp)(E:XK)
  (hr:Room n (A.deeper (envOfC "_law_leap" (zaa (top 35)) s.heap.objs.size (F 16) cdv))):
  ISs (zcR CX0 Pg w K mg base ["_law_cell_here","_law_some"] "_law_leap" (zaa (top 35)) (F 16) cdv A outer s H E).nox (zaR (zaq U fuel n) fuel zvj) (zag (top 35)):=
 (zaf (zbu 1 zAo.nd rfl zie (zgu (zad (zbL (zad zal (zad zal zao zac) zac)) (zad (zbL (zad zal (zad zal zao zac) zac)) (zad (zbL (zad zal (zad zal zao zac) zac)) (zad (zbL (zad zal (zad zal zao zac) zac)) (zad (zbL (zad zal (zad zal zao zac) zac)) (zad (zbL (zad zal (zad zal zao zac) zac)) (zad (zbL (zad zal (zad zal zao zac) zac)) (zad (zbL (zad zal (zad zal zao zac) zac)) (zad (zbL (zad zal (zad zal zao zac) zac)) (zad (zbL (zad zal (zad zal zao zac) zac)) (zad (zbL (zad zal (zad zal zao zac) zac)) (zad (zbL (zad zal (zad zal zao zac) zac)) (zad (zbL (zad zal (zad zal zao zac) zac)) zao zaD) zaD) zaD) zaD) zaD) zaD) zaD) zaD) zaD) zaD) zaD) zaD) zaD)))
  (zaf (zbf (zbQ hr.units (zbF zbs (zae 1 rfl zid zjD zjE) (zgu (zad (zbL (zad zal (zad zal zao zac) zac)) (zad (zbL (zad zal (zad zal zao zac) zac)) (zad (zbL (zad zal (zad zal zao zac) zac)) (zad (zbL (zad zal (zad zal zao zac) zac)) (zad (zbL (zad zal (zad zal zao zac) zac)) (zad (zbL (zad zal (zad zal zao zac) zac)) zao zaD) zaD) zaD) zaD) zaD) zaD))) (zbF zci (zae 0 rfl zer zau zav) zal) (fun _ _=>rfl)))
  zap))
theorem zv1(T:Txt K mg F FD TK)(hall: ∀i,FnOk Pg w K mg base CX0 n (F i) (FD i) (zaL i) (spA K (zaq U fuel n) i (zdV i)))(cdv:Value)(A:Around)(outer:List PySem.Env)(s:Shared)(H:Hp)(E:XK)
  (hr:Room n (A.deeper (envOfC "_law_is_near" (zaa (top 36)) s.heap.objs.size (F 17) cdv))):
  ISs (zcR CX0 Pg w K mg base ["_law_leap_here","_law_one","_law_other"] "_law_is_near" (zaa (top 36)) (F 17) cdv A outer s H E).nox (zaR (zaq U fuel n) fuel zvk) (zag (top 36)):=
 (zaf (zbf (zhr (zdL hr.units) (zaP zfO zmk T.z_sorted PyProof.Rows.boot_sorted (zad (zgu (zad (zaP zgS zoF T.z_abs (by decide+kernel) (zad (zbF zeT (zbQ hr.units (zae 1 rfl zff zf7 zf8) zal (fun _ _=>rfl)) (zbQ hr.units (zae 2 rfl zdE zbZ zb0) zal (fun _ _=>rfl))) zao zax) zhb zha zax zam) (zad (zaP zgS zoF T.z_abs (by decide+kernel) (zad (zbF zeT (zbQ hr.units (zae 1 rfl zff zf7 zf8) zal (fun _ _=>rfl)) (zbQ hr.units (zae 2 rfl zdE zbZ zb0) zal (fun _ _=>rfl))) zao zax) zhb zha zax zam) zao zas) zas)) zao ziK) zee zed ziK zam) (zfr zfG zqg T.z_list PyProof.Rows.boot_list (zad (zae 0 rfl zes zaB zaC) zao zab) zhY zhX zab zam) (zbd _)))
  zap)
theorem zv2(T:Txt K mg F FD TK)(hall: ∀i,FnOk Pg w K mg base CX0 n (F i) (FD i) (zaL i) (spA K (zaq U fuel n) i (zdV i)))(cdv:Value)(A:Around)(outer:List PySem.Env)(s:Shared)(H:Hp)(E:XK)
  (hr:Room n (A.deeper (envOfC "_law_near" (zaa (top 37)) s.heap.objs.size (F 18) cdv))):
  ISs (zcR CX0 Pg w K mg base ["_law_floor_here","_law_leap_here","_law_cell_here"] "_law_near" (zaa (top 37)) (F 18) cdv A outer s H E).nox (zaR (zaq U fuel n) fuel zvl) (zag (top 37)):=
 (zaf (zbf (zdx rfl (zcN (sc:=zaa (top 37)) (N:=["_law_floor_here","_law_leap_here","_law_cell_here"]) rfl rfl (by decide+kernel)) (zbz (zae 0 rfl zdS zaJ zaK)) (.inr ⟨_,rfl,fun _ _ _ _=>(zeD (zaE (zar (hall 17) rfl) hr (zfK (by decide+kernel)) T.m17 T.f17.kp (T.b17) (zad (zae 2 rfl (zaW (by decide+kernel)) zaB zaC) (zad (zae 3 rfl (zaW (by decide+kernel)) zau zav) (zad (zae 0 rfl (zaM (by decide+kernel)) zbZ zb0) zao zab) zab) zab) zc8 zab (zak zab (zak zab zam))) (zeE _ _) zbR)⟩) (fun _ _ _ _=>(zae 0 rfl (zaM (by decide+kernel)) zbZ zb0))))
  zap)
theorem zv3(T:Txt K mg F FD TK)(hall: ∀i,FnOk Pg w K mg base CX0 n (F i) (FD i) (zaL i) (spA K (zaq U fuel n) i (zdV i)))(cdv:Value)(A:Around)(outer:List PySem.Env)(s:Shared)(H:Hp)(E:XK)
  (hr:Room n (A.deeper (envOfC "greatest_divisor" (zaa (top 20)) s.heap.objs.size (F 21) cdv))):
  ISs (zcR CX0 Pg w K mg base ["leap"] "greatest_divisor" (zaa (top 20)) (F 21) cdv A outer s H E).nox (zaR (zaq U fuel n) fuel zvm) (zag (top 20)):=
 (zaf (zbf (zaP (znB rfl) zsF T.z_max PyProof.Rows.boot_max (zad (zdx rfl (zcN (sc:=zaa (top 20)) (N:=["leap"]) rfl rfl (by decide+kernel)) (zhz zoG T.z_range (zad zal (zad (zbF zbs (zbQ hr.units (zae 0 rfl zqh zaT zaU) zal (fun _ _=>rfl)) zal) zao zax) zac) zac zax) (.inr ⟨_,rfl,fun _ _ _ _=>(IW.t (zrP (zbS rfl (zdL hr.units) (zbF zci (zbQ hr.units (zae 1 rfl (zaW (by decide+kernel)) zaT zaU) zal (fun _ _=>rfl)) (zae 0 rfl (zaM (by decide+kernel)) zf0 zf1)) zal (zbd _)) (zng (zbS rfl (zdL hr.units) (zbF zci (zbQ hr.units (zae 1 rfl (zaW (by decide+kernel)) zaT zaU) zal (fun _ _=>rfl)) (zae 0 rfl (zaM (by decide+kernel)) zf0 zf1)) zal (zbd _)))))⟩) (fun _ _ _ _=>(zae 0 rfl (zaM (by decide+kernel)) zf0 zf1))) zao zaV) zot zos zaV zam))
  zap)
theorem zv4(T:Txt K mg F FD TK)(hall: ∀i,FnOk Pg w K mg base CX0 n (F i) (FD i) (zaL i) (spA K (zaq U fuel n) i (zdV i)))(cdv:Value)(A:Around)(outer:List PySem.Env)(s:Shared)(H:Hp)(E:XK)
  (hr:Room n (A.deeper (envOfC "has_odd_sum" (zaa (top 21)) s.heap.objs.size (F 22) cdv))):
  ISs (zcR CX0 Pg w K mg base ["leap","divisor"] "has_odd_sum" (zaa (top 21)) (F 22) cdv A outer s H E).nox (zaR (zaq U fuel n) fuel zvn) (zag (top 21)):=
 (zaf (zbu 1 zAp.nd rfl zkA (zaE (zar (hall 21) rfl) hr zdo T.m21 T.f21.kp (T.b21) (zad (zae 0 rfl zif zaT zaU) zao zab) zce zab zam))
  (zaf (zbf (zhr (zdL hr.units) (zbF zci (zbF zbs (zbF zcW (zbQ hr.units (zae 0 rfl zif zaT zaU) zal (fun _ _=>rfl)) (zae 1 rfl zgg zdi zdj)) (zbF zcW (zbQ hr.units (zae 0 rfl zif zaT zaU) zal (fun _ _=>rfl)) (zae 1 rfl zgg zdi zdj))) zal) zal (zbd _)))
  zap))
theorem zv5(T:Txt K mg F FD TK)(hall: ∀i,FnOk Pg w K mg base CX0 n (F i) (FD i) (zaL i) (spA K (zaq U fuel n) i (zdV i)))(cdv:Value)(A:Around)(outer:List PySem.Env)(s:Shared)(H:Hp)(E:XK)
  (hr:Room n (A.deeper (envOfC "hue_of" (zaa (top 22)) s.heap.objs.size (F 23) cdv))):
  ISs (zcR CX0 Pg w K mg base ["leap","cell","divisor","row","column"] "hue_of" (zaa (top 22)) (F 23) cdv A outer s H E).nox (zaR (zaq U fuel n) fuel zvo) (zag (top 22)):=
 (zaf (zbu 2 zxJ.nd rfl zkB (zaE (zar (hall 21) rfl) hr zdp T.m21 T.f21.kp (T.b21) (zad (zae 0 rfl zlE zaT zaU) zao zab) zce zab zam))
  (zaf (zbu 3 zxJ.nd rfl zsG (zbF zcW (zbQ hr.units (zae 1 rfl zlF zbg zbh) zal (fun _ _=>rfl)) (zae 2 rfl zgh zdi zdj)))
  (zaf (zbu 4 zxJ.nd rfl zmm (zbF zcW (zbQ hr.units (zae 1 rfl zlF zbg zbh) zal (fun _ _=>rfl)) (zae 2 rfl zgh zdi zdj)))
  (zaf (zir (zeD (zaE (zar (hall 22) rfl) hr zgi T.m22 T.f22.kp (T.b22) (zad (zae 0 rfl zlE zaT zaU) zao zab) zgz zab zam) (zeE _ _) zbR) (zaf (zbf (zbF zci (zbF zbs (zae 3 rfl zoH zq7 zq8) (zae 4 rfl zml zov zow)) zal))
  zap) zap)
  (zaf (zbf (zbF zci (zae 3 rfl zoH zq7 zq8) zal))
  zap)))))
theorem zv6(T:Txt K mg F FD TK)(hall: ∀i,FnOk Pg w K mg base CX0 n (F i) (FD i) (zaL i) (spA K (zaq U fuel n) i (zdV i)))(cdv:Value)(A:Around)(outer:List PySem.Env)(s:Shared)(H:Hp)(E:XK)
  (hr:Room n (A.deeper (envOfC "cells_of_hue" (zaa (top 23)) s.heap.objs.size (F 24) cdv))):
  ISs (zcR CX0 Pg w K mg base ["floor","leap","hue"] "cells_of_hue" (zaa (top 23)) (F 24) cdv A outer s H E).nox (zaR (zaq U fuel n) fuel zvp) (zag (top 23)):=
 (zaf (zbf (zdx rfl (zcN (sc:=zaa (top 23)) (N:=["floor","leap","hue"]) rfl rfl (by decide+kernel)) (zbz (zae 0 rfl zoI zaX zaY)) (.inr ⟨_,rfl,fun _ _ _ _=>(zbS rfl (zdL hr.units) (zaE (zar (hall 23) rfl) hr (zfK (by decide+kernel)) T.m23 T.f23.kp (T.b23) (zad (zae 2 rfl (zaW (by decide+kernel)) zaT zaU) (zad (zae 0 rfl (zaM (by decide+kernel)) zbg zbh) zao zab) zab) zju zab (zak zab zam)) (zae 3 rfl (zaW (by decide+kernel)) zq9 zra) (zbd _))⟩) (fun _ _ _ _=>(zae 0 rfl (zaM (by decide+kernel)) zbg zbh))))
  zap)
theorem zv7(T:Txt K mg F FD TK)(hall: ∀i,FnOk Pg w K mg base CX0 n (F i) (FD i) (zaL i) (spA K (zaq U fuel n) i (zdV i)))(cdv:Value)(A:Around)(outer:List PySem.Env)(s:Shared)(H:Hp)(E:XK)
  (hr:Room n (A.deeper (envOfC "_law_hue" (zaa (top 38)) s.heap.objs.size (F 28) cdv))):
  ISs (zcR CX0 Pg w K mg base ["_law_leap_here","_law_cell_here","_law_step","_law_row","_law_column"] "_law_hue" (zaa (top 38)) (F 28) cdv A outer s H E).nox (zaR (zaq U fuel n) fuel zvq) (zag (top 38)):=
 (zaf (zbu 2 zxK.nd rfl zig (zaP (znB rfl) zsH T.z_max PyProof.Rows.boot_max (zad (zdx rfl (zcN (sc:=zaa (top 38)) (N:=["_law_leap_here","_law_cell_here","_law_step","_law_row","_law_column"]) rfl rfl (by decide+kernel)) (zhz zoJ T.z_range (zad zal (zad zal zao zac) zac) zac zac) (.inr ⟨_,rfl,fun _ _ _ _=>(IW.t (zrP (zbS rfl (zdL hr.units) (zbF zci (zbQ hr.units (zae 1 rfl (zaW (by decide+kernel)) zaB zaC) zal (fun _ _=>rfl)) (zae 0 rfl (zaM (by decide+kernel)) zgb zgc)) zal (zbd _)) (zng (zbS rfl (zdL hr.units) (zbF zci (zbQ hr.units (zae 1 rfl (zaW (by decide+kernel)) zaB zaC) zal (fun _ _=>rfl)) (zae 0 rfl (zaM (by decide+kernel)) zgb zgc)) zal (zbd _)))))⟩) (fun _ _ _ _=>(zae 0 rfl (zaM (by decide+kernel)) zgb zgc))) zao zaV) zot zos zaV zam))
  (zaf (zbu 3 zxK.nd rfl zjN (zbF zcW (zbQ hr.units (zae 1 rfl zcs zau zav) zal (fun _ _=>rfl)) (zae 2 rfl zb2 zcp zcq)))
  (zaf (zbu 4 zxK.nd rfl zgk (zbF zcW (zbQ hr.units (zae 1 rfl zcs zau zav) zal (fun _ _=>rfl)) (zae 2 rfl zb2 zcp zcq)))
  (zaf (zir (zbS rfl (zdL hr.units) (zbF zci (zbF zbs (zbF zcW (zbQ hr.units (zae 0 rfl zcr zaB zaC) zal (fun _ _=>rfl)) (zae 2 rfl zb2 zcp zcq)) (zbF zcW (zbQ hr.units (zae 0 rfl zcr zaB zaC) zal (fun _ _=>rfl)) (zae 2 rfl zb2 zcp zcq))) zal) zal (zbd _)) (zaf (zbf (zbF zci (zbF zbs (zae 3 rfl zfg zf9 zga) (zae 4 rfl zgj zgA zgB)) zal))
  zap) zap)
  (zaf (zbf (zbF zci (zae 3 rfl zfg zf9 zga) zal))
  zap)))))
theorem zv8(T:Txt K mg F FD TK)(hall: ∀i,FnOk Pg w K mg base CX0 n (F i) (FD i) (zaL i) (spA K (zaq U fuel n) i (zdV i)))(cdv:Value)(A:Around)(outer:List PySem.Env)(s:Shared)(H:Hp)(E:XK)
  (hr:Room n (A.deeper (envOfC "finds_mate" (zaa (top 25)) s.heap.objs.size (F 37) cdv))):
  ISs (zcR CX0 Pg w K mg base ["floor","leap","mates","cell","tried","other"] "finds_mate" (zaa (top 25)) (F 37) cdv A outer s H E).nox (zaR (zaq U fuel n) fuel zs1) (zag (top 25)):=
 (zaf (zkd 5 PassesOwn.never rfl zAq.nd rfl zoK (zbz (zaE (zar (hall 11) rfl) hr zgE T.m11 T.f11.kp (T.b11) (zad (zae 0 rfl zjO zaX zaY) (zad (zae 1 rfl zlG zaT zaU) (zad (zae 3 rfl zih zbg zbh) zao zab) zab) zab) zeb zab (zak zab (zak zab zam)))) (zaf (zir (zbS rfl (ziJ hr.units) (zae 5 rfl zcC zbp zbq) (zae 4 rfl zgl zhR zhS) (by with_unfolding_all rfl)) (zaf (znt 4 hr.units rfl zgl (zae 5 rfl zcC zbp zbq) zoY zhR zhS)
  (zaf (zyA (zbS rfl (ziJ hr.units) (zae 5 rfl zcC zbp zbq) (zae 2 rfl zda zbi zbj) (by with_unfolding_all rfl)) (zqJ (hall 37) rfl (by decide) (by decide) hr zgF T.m37 T.f37.kp (T.b37) (zsN (zae 0 rfl zjO zaX zaY) (zsN (zae 1 rfl zlG zaT zaU) (zyz 2 rfl zda (zsN (zbQ hr.units (zae 2 rfl zda zbi zbj) (zae 5 rfl zcC zbp zbq) (fun _ _=>rfl)) (zyz 4 rfl zgl zqH zhR zhS) zah) zbi zbj) zab) zab) zec zab (zak zab (zak zab (zak zah (zak zab zam))))) zbR (zaf (znt 2 hr.units rfl zda (zae 3 rfl zih zbg zbh) (zae 5 rfl zcC zbp zbq) zbi zbj)
  (zaf (znt 2 hr.units rfl zda (zae 5 rfl zcC zbp zbq) (zae 3 rfl zih zbg zbh) zbi zbj)
  (zaf (zbf zoY)
  zap))) zap)
  zap)) zap)
  zap))
  (zaf (zbf zoY)
  zap))
theorem zv9(T:Txt K mg F FD TK)(hall: ∀i,FnOk Pg w K mg base CX0 n (F i) (FD i) (zaL i) (spA K (zaq U fuel n) i (zdV i)))(cdv:Value)(A:Around)(outer:List PySem.Env)(s:Shared)(H:Hp)(E:XK)
  (hr:Room n (A.deeper (envOfC "all_mates" (zaa (top 26)) s.heap.objs.size (F 38) cdv))):
  ISs (zcR CX0 Pg w K mg base ["floor","leap","mates","cell"] "all_mates" (zaa (top 26)) (F 38) cdv A outer s H E).nox (zaR (zaq U fuel n) fuel zvr) (zag (top 26)):=
 (zaf (zbu 2 zzv.nd rfl zoL (zua true))
  (zaf (zkd 3 PassesOwn.never rfl zzv.nd rfl zqj (zbz (zaE (zar (hall 24) rfl) hr zfj T.m24 T.f24.kp (T.b24) (zad (zae 0 rfl zjQ zaX zaY) (zad (zae 1 rfl zlH zaT zaU) (zad zal zao zac) zab) zab) zc6 zab (zak zab (zak zac zam)))) (zaf (zr1 (zqJ (hall 37) rfl (by decide) (by decide) hr zgG T.m37 T.f37.kp (T.b37) (zsN (zae 0 rfl zjQ zaX zaY) (zsN (zae 1 rfl zlH zaT zaU) (zyz 2 rfl zjP (zsN (zae 3 rfl zqi zbg zbh) (zAQ true zqH) zab) zbi zbj) zab) zab) zec zab (zak zab (zak zab (zak zab (zak znb zam))))))
  zap))
  (zaf (znl 2 rfl zjP zbi zbj)
  zap)))
theorem zwa(T:Txt K mg F FD TK)(hall: ∀i,FnOk Pg w K mg base CX0 n (F i) (FD i) (zaL i) (spA K (zaq U fuel n) i (zdV i)))(cdv:Value)(A:Around)(outer:List PySem.Env)(s:Shared)(H:Hp)(E:XK)
  (hr:Room n (A.deeper (envOfC "pairs_of" (zaa (top 27)) s.heap.objs.size (F 39) cdv))):
  ISs (zcR CX0 Pg w K mg base ["floor","mates"] "pairs_of" (zaa (top 27)) (F 39) cdv A outer s H E).nox (zaR (zaq U fuel n) fuel zvs) (zag (top 27)):=
 (zaf (zbf (zdx rfl (zcN (sc:=zaa (top 27)) (N:=["floor","mates"]) rfl rfl (by decide+kernel)) (zbz (zae 0 rfl zoM zaX zaY)) (.inr ⟨_,rfl,fun _ _ _ _=>(IW.t (zrP (zbS rfl (zt1 hr.units) (zae 0 rfl (zaM (by decide+kernel)) zbg zbh) (zae 2 rfl (zaW (by decide+kernel)) zbi zbj) (by with_unfolding_all rfl)) (zng (zbS rfl (zpn hr.units) (zae 0 rfl (zaM (by decide+kernel)) zbg zbh) (zbQ hr.units (zae 2 rfl (zaW (by decide+kernel)) zbi zbj) (zae 0 rfl (zaM (by decide+kernel)) zbg zbh) (fun _ _=>rfl)) (zbd _)))))⟩) (fun _ _ _ _=>(zbL (zad (zae 0 rfl (zaM (by decide+kernel)) zbg zbh) (zad (zbQ hr.units (zae 2 rfl (zaW (by decide+kernel)) zbi zbj) (zae 0 rfl (zaM (by decide+kernel)) zbg zbh) (fun _ _=>rfl)) zao zah) zab)))))
  zap)
theorem zwb(T:Txt K mg F FD TK)(hall: ∀i,FnOk Pg w K mg base CX0 n (F i) (FD i) (zaL i) (spA K (zaq U fuel n) i (zdV i)))(cdv:Value)(A:Around)(outer:List PySem.Env)(s:Shared)(H:Hp)(E:XK)
  (hr:Room n (A.deeper (envOfC "crowd_and_around" (zaa (top 28)) s.heap.objs.size (F 40) cdv))):
  ISs (zcR CX0 Pg w K mg base ["floor","leap","mates","hue","crowd","around","edge","further","cell","other"] "crowd_and_around" (zaa (top 28)) (F 40) cdv A outer s H E).nox (zaR (zaq U fuel n) fuel zvt) (zag (top 28)):=
 (zaf (zqF 4 rfl zqk.nd rfl zmo (zcN (sc:=zaa (top 28)) (N:=["floor","leap","mates","hue","crowd","around","edge","further","cell","other"]) rfl rfl (by decide+kernel)) (zbz (zaE (zar (hall 24) rfl) hr zfk T.m24 T.f24.kp (T.b24) (zad (zae 0 rfl zjR zaX zaY) (zad (zae 1 rfl zlJ zaT zaU) (zad (zae 3 rfl zsI zq9 zra) zao zab) zab) zab) zc6 zab (zak zab (zak zab zam)))) (.inr ⟨_,rfl,fun _ _ _ _=>(zbS rfl (ziJ hr.units) (zae 0 rfl (zaM (by decide+kernel)) zbg zbh) (zae 3 rfl (zaW (by decide+kernel)) zbi zbj) (by with_unfolding_all rfl))⟩) (fun _ _ _ _=>(zae 0 rfl (zaM (by decide+kernel)) zbg zbh)) (hsw:=(zny (sc:=zaa (top 28)) rfl (by decide+kernel))))
  (zaf (zbu 5 zqk.nd rfl zmn (zgu zao))
  (zaf (zt6 6 4 zqk.nd rfl zlK rfl zgm (hd:=zhT) (hcd:=zhU))
  (zaf (zrT PassesOwn.never (zbS rfl zt2 (zaP zdu zsJ T.z_len PySem.boot_len (zad (zae 6 rfl zlI zox zoy) zao zab) zdB zdA zab zam) zal (zbd _)) (zaf (zbu 7 zqk.nd rfl zkC (zgu zao))
  (zaf (zt7 8 6 PassesOwn.never rfl zqk.nd rfl zqm rfl zlI (zaf (zkd 9 PassesOwn.never rfl zqk.nd rfl zoP (zbz (zaE (zar (hall 11) rfl) hr zgH T.m11 T.f11.kp (T.b11) (zad (zae 0 rfl zjR zaX zaY) (zad (zae 1 rfl zlJ zaT zaU) (zad (zae 8 rfl zql zbg zbh) zao zab) zab) zab) zeb zab (zak zab (zak zab zam)))) (zaf (zir (zbS rfl (ziJ hr.units) (zae 9 rfl zgn zbp zbq) (zae 5 rfl zeN zf2 zf3) (by with_unfolding_all rfl)) (zaf (zrS 5 rfl zeN (zae 9 rfl zgn zbp zbq) zab zf2 zf3)
  (zaf (zrS 7 rfl zdT (zbQ hr.units (zae 2 rfl zoN zbi zbj) (zae 9 rfl zgn zbp zbq) (fun _ _=>rfl)) zah zeL zeM)
  zap)) zap)
  zap))
  zap) (hd:=zox) (hcd:=zoy))
  (zaf (zbu 4 zqk.nd rfl zoO (zbF zbs (zae 4 rfl zgm zhT zhU) (zae 7 rfl zdT zeL zeM)))
  (zaf (zt6 6 7 zqk.nd rfl zlK rfl zdT (hd:=zeL) (hcd:=zeM))
  zap)))))
  (zaf (zud _ (zbf (zbL (zad (zae 4 rfl zgm zhT zhU) (zad (zae 5 rfl zeN zf2 zf3) zao zab) zab))))
  zap)))))
theorem zwc(T:Txt K mg F FD TK)(hall: ∀i,FnOk Pg w K mg base CX0 n (F i) (FD i) (zaL i) (spA K (zaq U fuel n) i (zdV i)))(cdv:Value)(A:Around)(outer:List PySem.Env)(s:Shared)(H:Hp)(E:XK)
  (hr:Room n (A.deeper (envOfC "most_pairs" (zaa (top 29)) s.heap.objs.size (F 43) cdv))):
  ISs (zcR CX0 Pg w K mg base ["floor","leap"] "most_pairs" (zaa (top 29)) (F 43) cdv A outer s H E).nox (zaR (zaq U fuel n) fuel zvu) (zag (top 29)):=
 (zaf (zkY (zaE (zar (hall 6) rfl) hr zkD T.m6 T.f6.kp (T.b6) (zad (zae 0 rfl zgo zaX zaY) zao zab) zhc zab zam))
  (zaf (zkY (zaE (zar (hall 7) rfl) hr zfl T.m7 T.f7.kp (T.b7) (zad (zae 1 rfl zlL zaT zaU) zao zab) zc7 zab zam))
  (zaf (zbf (zaE (zar (hall 39) rfl) hr zjS T.m39 T.f39.kp (T.b39) (zad (zae 0 rfl zgo zaX zaY) (zad (zaE (zar (hall 38) rfl) hr zii T.m38 T.f38.kp (T.b38) (zad (zae 0 rfl zgo zaX zaY) (zad (zae 1 rfl zlL zaT zaU) zao zab) zab) ze4 zab (zak zab zam)) zao zas) zab) zf4 zab (zak zas zam)))
  zap)))
theorem zwd(T:Txt K mg F FD TK)(hall: ∀i,FnOk Pg w K mg base CX0 n (F i) (FD i) (zaL i) (spA K (zaq U fuel n) i (zdV i)))(cdv:Value)(A:Around)(outer:List PySem.Env)(s:Shared)(H:Hp)(E:XK)
  (hr:Room n (A.deeper (envOfC "paired" (zaa (top 30)) s.heap.objs.size (F 47) cdv))):
  ISs (zcR CX0 Pg w K mg base ["floor","leap","mates","alone","found"] "paired" (zaa (top 30)) (F 47) cdv A outer s H E).nox (zaR (zaq U fuel n) fuel zvv) (zag (top 30)):=
 (zaf (zkY (zaE (zar (hall 6) rfl) hr zkE T.m6 T.f6.kp (T.b6) (zad (zae 0 rfl zdb zaX zaY) zao zab) zhc zab zam))
  (zaf (zkY (zaE (zar (hall 7) rfl) hr zfm T.m7 T.f7.kp (T.b7) (zad (zae 1 rfl zfy zaT zaU) zao zab) zc7 zab zam))
  (zaf (zbu 2 zxL.nd rfl zoS (zaE (zar (hall 38) rfl) hr zij T.m38 T.f38.kp (T.b38) (zad (zae 0 rfl zdb zaX zaY) (zad (zae 1 rfl zfy zaT zaU) zao zab) zab) ze4 zab (zak zab zam)))
  (zaf (zqF 3 rfl zxL.nd rfl zmp (zcN (sc:=zaa (top 30)) (N:=["floor","leap","mates","alone","found"]) rfl rfl (by decide+kernel)) (zbz (zae 0 rfl zdb zaX zaY)) (.inr ⟨_,rfl,fun _ _ _ _=>(zbS rfl (ziJ hr.units) (zae 0 rfl (zaM (by decide+kernel)) zbg zbh) (zae 3 rfl (zaW (by decide+kernel)) zbi zbj) (by with_unfolding_all rfl))⟩) (fun _ _ _ _=>(zae 0 rfl (zaM (by decide+kernel)) zbg zbh)) (hsw:=(zny (sc:=zaa (top 30)) rfl (by decide+kernel))))
  (zaf (zir (zbS rfl (zdL hr.units) (zaP zdu zsK T.z_len PySem.boot_len (zad (zae 3 rfl zjT zly zlz) zao zab) zdB zdA zab zam) zal (zbd _)) (zaf (zbf (zbL (zad zpq (zad (zaE (zar (hall 39) rfl) hr zjV T.m39 T.f39.kp (T.b39) (zad (zae 0 rfl zdb zaX zaY) (zad (zae 2 rfl zjU zbi zbj) zao zab) zab) zf4 zab (zak zab zam)) zao zas) zac)))
  zap) zap)
  (zaf (zud _ (zbu 4 zxL.nd rfl zoR (zaE (zar (hall 40) rfl) hr zdq T.m40 T.f40.kp (T.b40) (zad (zae 0 rfl zdb zaX zaY) (zad (zae 1 rfl zfy zaT zaU) (zad (zae 2 rfl zjU zbi zbj) (zad (zaE (zar (hall 23) rfl) hr zmr T.m23 T.f23.kp (T.b23) (zad (zae 1 rfl zfy zaT zaU) (zad (zbQ hr.units (zae 3 rfl zjT zly zlz) zal (fun _ _=>rfl)) zao zah) zab) zju zab (zak zah zam)) zao zas) zab) zab) zab) zdR zab (zak zab (zak zab (zak zas zam))))))
  (zaf (zbf (zbL (zad zpq (zad (zaP zfO zmq T.z_sorted PyProof.Rows.boot_sorted (zad (zbQ hr.units (zae 4 rfl zoQ zp8 zp9) zal (fun _ _=>rfl)) zao zah) zee zed zah zam) zao zas) zac)))
  zap)))))))
theorem zwe(T:Txt K mg F FD TK)(hall: ∀i,FnOk Pg w K mg base CX0 n (F i) (FD i) (zaL i) (spA K (zaq U fuel n) i (zdV i)))(cdv:Value)(A:Around)(outer:List PySem.Env)(s:Shared)(H:Hp)(E:XK)
  (hr:Room n (A.deeper (envOfC "law" (zaa (top 39)) s.heap.objs.size (F 48) cdv))):
  ISs (zcR CX0 Pg w K mg base ["_law_script","_law_floor_here","_law_leap_here","_law_found","_law_whole_floor","_law_held","_law_pair","_law_together","_law_cell_here"] "law" (zaa (top 39)) (F 48) cdv A outer s H E).nox (zaR (zaq U fuel n) fuel zs2) (zag (top 39)):=
 (zaf (zbu 1 zoT.nd rfl zdU (zaE (zar (hall 15) rfl) hr zgK T.m15 T.f15.kp (T.b15) (zad (zae 0 rfl zdc zaZ za0) (zad zal (zad zal zao zac) zac) zab) zh0 zab (zak zac (zak zac zam))))
  (zaf (zbu 2 zoT.nd rfl zex (zaE (zar (hall 16) rfl) hr zio T.m16 T.f16.kp (T.b16) (zad (zaE (zar (hall 13) rfl) hr zin T.m13 T.f13.kp (T.b13) (zad (zae 0 rfl zdc zaZ za0) (zad zal zao zac) zab) zbN zab (zak zac zam)) zao zas) zjG zas zam))
  (zaf (zbu 3 zoT.nd rfl zgI (zaE (zar (hall 47) rfl) hr zms T.m47 T.f47.kp (T.b47) (zad (zae 1 rfl zaN zaJ zaK) (zad (zae 2 rfl zbm zaB zaC) zao zab) zab) zoz zab (zak zab zam)))
  (zaf (zir (IW.t (zrQ (zhu (zeD (zgV (t:=.tuple) zdF T.z_isinstance zoV T.z_tuple PyProof.Rows.boot_tuple (zae 3 rfl zaH zaz zaA) zfv zfu zab zab (zak zab zam)) (zfH _ _) zbR)) (zrQ (zbS rfl (zrL hr.units) (zaP zdu zeO T.z_len PySem.boot_len (zad (zae 3 rfl zaH zaz zaA) zao zab) zdB zdA zab zam) zal (zbd _)) (zlS (zhu (zeD (zgV (t:=.list) zdF T.z_isinstance zim T.z_list PyProof.Rows.boot_list (zbQ hr.units (zae 3 rfl zaH zaz zaA) zal (fun _ _=>rfl)) zhY zhX zah zab (zak zab zam)) (zfH _ _) zbR)))))) (zaf (zbf zoY)
  zap) zap)
  (zaf (zbu 4 zoT.nd rfl zdr (zhr (zdL hr.units) (zbF zfF zal (zaP zdu zeO T.z_len PySem.boot_len (zad (zaE (zar (hall 43) rfl) hr zgJ T.m43 T.f43.kp (T.b43) (zad (zae 1 rfl zaN zaJ zaK) (zad (zae 2 rfl zbm zaB zaC) zao zab) zab) zhZ zab (zak zab zam)) zao zas) zdB zdA zas zam)) (zaP zdu zeO T.z_len PySem.boot_len (zad (zae 1 rfl zaN zaJ zaK) zao zab) zdB zdA zab zam) (zbd _)))
  (zaf (zir (zbS rfl zuf (zbQ hr.units (zae 3 rfl zaH zaz zaA) zal (fun _ _=>rfl)) zpq (zbd _)) (zaf (zbu 5 zoT.nd rfl zew (zgu zao))
  (zaf (zkd 6 PassesOwn.never rfl zoT.nd rfl zik (zbz (zbQ hr.units (zae 3 rfl zaH zaz zaA) zal (fun _ _=>rfl))) (zaf (zir (IW.t (zrQ (zhu (zeD (zaE (zar (hall 17) rfl) hr zfn T.m17 T.f17.kp (T.b17) (zad (zae 2 rfl zbm zaB zaC) (zad (zbQ hr.units (zae 6 rfl zbE zbO zbP) zal (fun _ _=>rfl)) (zad (zbQ hr.units (zae 6 rfl zbE zbO zbP) zal (fun _ _=>rfl)) zao zah) zah) zab) zc8 zab (zak zah (zak zah zam))) (zeE _ _) zbR)) (zlS (zbS rfl (zyy hr.units) (zbQ hr.units (zae 6 rfl zbE zbO zbP) zal (fun _ _=>rfl)) (zbQ hr.units (zae 6 rfl zbE zbO zbP) zal (fun _ _=>rfl)) (zbd _))))) (zaf (zbf zoY)
  zap) zap)
  (zaf (zbu 5 zoT.nd rfl zew (zbF zbs (zae 5 rfl zeu zfb zfc) (zfr zfG zim T.z_list PyProof.Rows.boot_list (zad (zae 6 rfl zbE zbO zbP) zao zab) zhY zhX zab zam)))
  zap)))
  (zaf (zbf (ziL (zae 4 rfl zbV zcf zcg) (ziL (zhr (zdL hr.units) (zaP zfO zhe T.z_sorted PyProof.Rows.boot_sorted (zad (zae 5 rfl zeu zfb zfc) zao zab) zee zed zab zam) (zfr zfG zim T.z_list PyProof.Rows.boot_list (zad (zae 1 rfl zaN zaJ zaK) zao zab) zhY zhX zab zam) (zbd _)) (znf (zhr (zdL hr.units) (zbQ hr.units (zae 3 rfl zaH zaz zaA) zal (fun _ _=>rfl)) (zaP (zpM (hu8 hr)) zhe T.z_sorted PyProof.Rows.boot_sorted (zad (zbQ hr.units (zae 3 rfl zaH zaz zaA) zal (fun _ _=>rfl)) zao zah) zee zed zah zam) (zbd _))))))
  zap))) zap)
  (zaf (zir (IW.t (zrQ (zbS rfl zug (zbQ hr.units (zae 3 rfl zaH zaz zaA) zal (fun _ _=>rfl)) zpq (zbd _)) (zlS (zeD (zae 4 rfl zbV zcf zcg) (zqB _) znc)))) (zaf (zbf zoY)
  zap) zap)
  (zaf (zir (zbS rfl (zrL hr.units) (zbQ hr.units (zae 3 rfl zaH zaz zaA) zal (fun _ _=>rfl)) (zdx rfl (zcN (sc:=zaa (top 39)) (N:=["_law_script","_law_floor_here","_law_leap_here","_law_found","_law_whole_floor","_law_held","_law_pair","_law_together","_law_cell_here"]) rfl rfl (by decide+kernel)) (zbz (zae 1 rfl zaN zaJ zaK)) (.inr ⟨_,rfl,fun _ _ _ _=>(zbS rfl (zt1 hr.units) (zae 0 rfl (zaM (by decide+kernel)) zau zav) (zbQ hr.units (zae 4 rfl (zaW (by decide+kernel)) zaz zaA) zal (fun _ _=>rfl)) (by with_unfolding_all rfl))⟩) (fun _ _ _ _=>(zae 0 rfl (zaM (by decide+kernel)) zau zav))) (zbd _)) (zaf (zbf zoY)
  zap) zap)
  (zaf (zbu 7 zoT.nd rfl zcE (zgu zao))
  (zaf (zkd 8 PassesOwn.never rfl zoT.nd rfl zev (zbz (zbQ hr.units (zae 3 rfl zaH zaz zaA) zal (fun _ _=>rfl))) (zaf (zbu 7 zoT.nd rfl zcE (zbF zbs (zae 7 rfl zcD zcO zcP) (zaE (zar (hall 18) rfl) hr zil T.m18 T.f18.kp (T.b18) (zad (zae 1 rfl zaN zaJ zaK) (zad (zae 2 rfl zbm zaB zaC) (zad (zae 8 rfl zet zau zav) zao zab) zab) zab) zjF zab (zak zab (zak zab zam)))))
  zap))
  (zaf (zir (zbS rfl (zrL hr.units) (zqO rfl (hu8 hr) zeO T.z_len zoU T.z_set (zdx rfl (zcN (sc:=zaa (top 39)) (N:=["_law_script","_law_floor_here","_law_leap_here","_law_found","_law_whole_floor","_law_held","_law_pair","_law_together","_law_cell_here"]) rfl rfl (by decide+kernel)) (zbz (zbQ hr.units (zae 3 rfl zaH zaz zaA) zal (fun _ _=>rfl))) (.inl ⟨rfl,rfl⟩) (fun _ _ _ _=>(zaE (zar (hall 28) rfl) hr (zfK (by decide+kernel)) T.m28 T.f28.kp (T.b28) (zad (zae 3 rfl (zaW (by decide+kernel)) zaB zaC) (zad (zae 0 rfl (zaM (by decide+kernel)) zau zav) zao zab) zab) zky zab (zak zab zam)))) zaV zas) zal (zbd _)) (zaf (zbf zoY)
  zap) zap)
  (zaf (zbf (zhr (zpn hr.units) (zqO rfl (hu8 hr) zeO T.z_len zoU T.z_set (zae 7 rfl zcD zcO zcP) zab zas) (zaP zdu zeO T.z_len PySem.boot_len (zad (zbQ hr.units (zae 3 rfl zaH zaz zaA) zal (fun _ _=>rfl)) zao zah) zdB zdA zah zam) (zbd _)))
  zap))))))))))))
theorem za3(T:Txt K mg F FD TK): ∀n i,FnOk Pg w K mg base CX0 n (F i) (FD i) (zaL i) (spA K (zaq U fuel n) i (zdV i))
 |0,_=>zrZ
 |n+1,0=>zbA (F0:=⟨3,3,ir0,[],none⟩) T.f0 sc0 rfl rfl rfl rfl (by decide) rfl (zzw T (za3 T n))
 |n+1,1=>zbA (F0:=⟨1,1,ir1,[],none⟩) T.f1 sc1 rfl rfl rfl rfl (by decide) rfl (zzx T (za3 T n))
 |n+1,2=>zbA (F0:=⟨1,1,ir2,[],none⟩) T.f2 sc2 rfl rfl rfl rfl (by decide) rfl (zzy T (za3 T n))
 |n+1,3=>zbA (F0:=⟨1,1,ir3,[],none⟩) T.f3 sc3 rfl rfl rfl rfl (by decide) rfl (zzz T (za3 T n))
 |n+1,4=>zbA (F0:=⟨1,1,ir4,[],none⟩) T.f4 sc4 rfl rfl rfl rfl (by decide) rfl (zzA T (za3 T n))
 |n+1,5=>zbA (F0:=⟨1,1,ir5,[],none⟩) T.f5 sc5 rfl rfl rfl rfl (by decide) rfl (zzB T (za3 T n))
 |n+1,6=>zbA (F0:=⟨1,1,ir6,[],none⟩) T.f6 sc6 rfl rfl rfl rfl (by decide) rfl (zzC T (za3 T n))
 |n+1,7=>zbA (F0:=⟨1,1,ir7,[],none⟩) T.f7 sc7 rfl rfl rfl rfl (by decide) rfl (zzD T (za3 T n))
 |n+1,8=>za8 rfl
 |n+1,9=>zbA (F0:=⟨2,2,ir9,[],none⟩) T.f9 sc9 rfl rfl rfl rfl (by decide) rfl (zzE T (za3 T n))
 |n+1,10=>zbA (F0:=⟨3,3,zve,[],none⟩) T.f10 zA4 rfl rfl rfl rfl (by decide) rfl (zvV T (za3 T n))
 |n+1,11=>zbA (F0:=⟨3,3,zvf,[],none⟩) T.f11 zA5 rfl rfl rfl rfl (by decide) rfl (zvW T (za3 T n))
 |n+1,12=>za8 rfl
 |n+1,13=>zbA (F0:=⟨2,2,zvg,[],none⟩) T.f13 zA6 rfl rfl rfl rfl (by decide) rfl (zvX T (za3 T n))
 |n+1,14=>zbA (F0:=⟨3,3,zvh,[],none⟩) T.f14 zA7 rfl rfl rfl rfl (by decide) rfl (zvY T (za3 T n))
 |n+1,15=>zbA (F0:=⟨3,13,zvi,[],none⟩) T.f15 zmv rfl rfl rfl rfl (by decide) rfl (zvZ T (za3 T n))
 |n+1,16=>zbA (F0:=⟨1,2,zvj,[],none⟩) T.f16 zAo rfl rfl rfl rfl (by decide) rfl (zv0 T (za3 T n))
 |n+1,17=>zbA (F0:=⟨3,3,zvk,[],none⟩) T.f17 zA8 rfl rfl rfl rfl (by decide) rfl (zv1 T (za3 T n))
 |n+1,18=>zbA (F0:=⟨3,3,zvl,[],none⟩) T.f18 zA9 rfl rfl rfl rfl (by decide) rfl (zv2 T (za3 T n))
 |n+1,19=>za8 rfl
 |n+1,20=>za8 rfl
 |n+1,21=>zbA (F0:=⟨1,1,zvm,[],none⟩) T.f21 zBa rfl rfl rfl rfl (by decide) rfl (zv3 T (za3 T n))
 |n+1,22=>zbA (F0:=⟨1,2,zvn,[],none⟩) T.f22 zAp rfl rfl rfl rfl (by decide) rfl (zv4 T (za3 T n))
 |n+1,23=>zbA (F0:=⟨2,5,zvo,[],none⟩) T.f23 zxJ rfl rfl rfl rfl (by decide) rfl (zv5 T (za3 T n))
 |n+1,24=>zbA (F0:=⟨3,3,zvp,[],none⟩) T.f24 zBb rfl rfl rfl rfl (by decide) rfl (zv6 T (za3 T n))
 |n+1,25=>za8 rfl
 |n+1,26=>za8 rfl
 |n+1,27=>za8 rfl
 |n+1,28=>zbA (F0:=⟨2,5,zvq,[],none⟩) T.f28 zxK rfl rfl rfl rfl (by decide) rfl (zv7 T (za3 T n))
 |n+1,29=>za8 rfl
 |n+1,30=>za8 rfl
 |n+1,31=>za8 rfl
 |n+1,32=>za8 rfl
 |n+1,33=>za8 rfl
 |n+1,34=>za8 rfl
 |n+1,35=>za8 rfl
 |n+1,36=>za8 rfl
 |n+1,37=>zbA (F0:=⟨5,6,zs1,[2,4],none⟩) T.f37 zAq rfl rfl rfl rfl (by decide) rfl (zv8 T (za3 T n))
 |n+1,38=>zbA (F0:=⟨2,4,zvr,[],none⟩) T.f38 zzv rfl rfl rfl rfl (by decide) rfl (zv9 T (za3 T n))
 |n+1,39=>zbA (F0:=⟨2,2,zvs,[],none⟩) T.f39 zBc rfl rfl rfl rfl (by decide) rfl (zwa T (za3 T n))
 |n+1,40=>zbA (F0:=⟨4,10,zvt,[],none⟩) T.f40 zqk rfl rfl rfl rfl (by decide) rfl (zwb T (za3 T n))
 |n+1,41=>za8 rfl
 |n+1,42=>za8 rfl
 |n+1,43=>zbA (F0:=⟨2,2,zvu,[],none⟩) T.f43 zBd rfl rfl rfl rfl (by decide) rfl (zwc T (za3 T n))
 |n+1,44=>za8 rfl
 |n+1,45=>za8 rfl
 |n+1,46=>za8 rfl
 |n+1,47=>zbA (F0:=⟨2,5,zvv,[],none⟩) T.f47 zxL rfl rfl rfl rfl (by decide) rfl (zwd T (za3 T n))
 |n+1,48=>zbA (F0:=⟨1,9,zs2,[],none⟩) T.f48 zoT rfl rfl rfl rfl (by decide) rfl (zwe T (za3 T n))
 |n+1,_+49=>za8 rfl
theorem zwf {h : Heap} (X : K.In h) (G : h.Ns mainGlobals mg) {f0 f1 f2 f3 f4 f5 f6 f7 f9 f10 f11 f13 f14 f15 f16 f17 f18 f21 f22 f23 f24 f28 f37 f38 f39 f40 f43 f47 f48 : Addr} {od0 od1 od2 od3 od4 od5 od6 od7 od9 od10 od11 od13 od14 od15 od16 od17 od18 od21 od22 od23 od24 od28 od37 od38 od39 od40 od43 od47 od48 an0 an1 an2 an3 an4 an5 an6 an7 an9 an10 an11 an13 an14 an15 an16 an17 an18 an21 an22 an23 an24 an28 an37 an38 an39 an40 an43 an47 an48 : Option Addr} {sl0 sl1 sl2 sl3 sl4 sl5 sl6 sl7 sl9 sl10 sl11 sl13 sl14 sl15 sl16 sl17 sl18 sl21 sl22 sl23 sl24 sl28 sl37 sl38 sl39 sl40 sl43 sl47 sl48 : Array (Option Value)} {oc0 oc1 oc2 oc3 oc4 oc5 oc6 oc7 oc9 oc10 oc11 oc13 oc14 oc15 oc16 oc17 oc18 oc21 oc22 oc23 oc24 oc28 oc37 oc38 oc39 oc40 oc43 oc47 oc48 kV0 kV1 kV2 kV3 kV4 kV5 kV6 kV7 kV9 kV10 kV11 kV13 kV14 kV15 kV16 kV17 kV18 kV21 kV22 kV23 kV24 kV28 kV37 kV38 kV39 kV40 kV43 kV47 kV48 dc0 dc1 dc2 dc3 dc4 dc5 dc6 dc7 dc9 dc10 dc11 dc13 dc14 dc15 dc16 dc17 dc18 dc21 dc22 dc23 dc24 dc28 dc37 dc38 dc39 dc40 dc43 dc47 dc48 pm0 pm1 pm2 pm3 pm4 pm5 pm6 pm7 pm9 pm10 pm11 pm13 pm14 pm15 pm16 pm17 pm18 pm21 pm22 pm23 pm24 pm28 pm37 pm38 pm39 pm40 pm43 pm47 pm48 cd0 cd1 cd2 cd3 cd4 cd5 cd6 cd7 cd9 cd10 cd11 cd13 cd14 cd15 cd16 cd17 cd18 cd21 cd22 cd23 cd24 cd28 cd37 cd38 cd39 cd40 cd43 cd47 cd48 ct0 ct1 ct2 ct3 ct4 ct5 ct6 ct7 ct9 ct10 ct11 ct13 ct14 ct15 ct16 ct17 ct18 ct21 ct22 ct23 ct24 ct28 ct37 ct38 ct39 ct40 ct43 ct47 ct48 : Value} {t0 t1 t2 : Tok}
    (a0 : PySem.W.nsIn K mainGlobals "is_whole" = some (some (.ref f0))) (l0 : K.lookup f0 = some ⟨oc0, od0, .func (PySem.W.fnOf "is_whole" "is_whole" (zan (top 8)) (zag (top 8)) (zaa (top 8)) .none kV0 dc0 pm0 an0 cd0 ct0), sl0⟩) (e0 : PySem.W.codeIn K cd0 "is_whole" = true) (k0 : PySem.W.keepIn K (.ref f0) = true)
    (a1 : PySem.W.nsIn K mainGlobals "is_couple" = some (some (.ref f1))) (l1 : K.lookup f1 = some ⟨oc1, od1, .func (PySem.W.fnOf "is_couple" "is_couple" (zan (top 9)) (zag (top 9)) (zaa (top 9)) .none kV1 dc1 pm1 an1 cd1 ct1), sl1⟩) (e1 : PySem.W.codeIn K cd1 "is_couple" = true) (k1 : PySem.W.keepIn K (.ref f1) = true)
    (a2 : PySem.W.nsIn K mainGlobals "is_cell" = some (some (.ref f2))) (l2 : K.lookup f2 = some ⟨oc2, od2, .func (PySem.W.fnOf "is_cell" "is_cell" (zan (top 10)) (zag (top 10)) (zaa (top 10)) .none kV2 dc2 pm2 an2 cd2 ct2), sl2⟩) (e2 : PySem.W.codeIn K cd2 "is_cell" = true) (k2 : PySem.W.keepIn K (.ref f2) = true)
    (a3 : PySem.W.nsIn K mainGlobals "is_leap" = some (some (.ref f3))) (l3 : K.lookup f3 = some ⟨oc3, od3, .func (PySem.W.fnOf "is_leap" "is_leap" (zan (top 11)) (zag (top 11)) (zaa (top 11)) .none kV3 dc3 pm3 an3 cd3 ct3), sl3⟩) (e3 : PySem.W.codeIn K cd3 "is_leap" = true) (k3 : PySem.W.keepIn K (.ref f3) = true)
    (a4 : PySem.W.nsIn K mainGlobals "is_rising" = some (some (.ref f4))) (l4 : K.lookup f4 = some ⟨oc4, od4, .func (PySem.W.fnOf "is_rising" "is_rising" (zan (top 12)) (zag (top 12)) (zaa (top 12)) .none kV4 dc4 pm4 an4 cd4 ct4), sl4⟩) (e4 : PySem.W.codeIn K cd4 "is_rising" = true) (k4 : PySem.W.keepIn K (.ref f4) = true)
    (a5 : PySem.W.nsIn K mainGlobals "is_floor" = some (some (.ref f5))) (l5 : K.lookup f5 = some ⟨oc5, od5, .func (PySem.W.fnOf "is_floor" "is_floor" (zan (top 13)) (zag (top 13)) (zaa (top 13)) .none kV5 dc5 pm5 an5 cd5 ct5), sl5⟩) (e5 : PySem.W.codeIn K cd5 "is_floor" = true) (k5 : PySem.W.keepIn K (.ref f5) = true)
    (a6 : PySem.W.nsIn K mainGlobals "checked" = some (some (.ref f6))) (l6 : K.lookup f6 = some ⟨oc6, od6, .func (PySem.W.fnOf "checked" "checked" (zan (top 14)) (zag (top 14)) (zaa (top 14)) .none kV6 dc6 pm6 an6 cd6 ct6), sl6⟩) (e6 : PySem.W.codeIn K cd6 "checked" = true) (k6 : PySem.W.keepIn K (.ref f6) = true)
    (a7 : PySem.W.nsIn K mainGlobals "checked_leap" = some (some (.ref f7))) (l7 : K.lookup f7 = some ⟨oc7, od7, .func (PySem.W.fnOf "checked_leap" "checked_leap" (zan (top 15)) (zag (top 15)) (zaa (top 15)) .none kV7 dc7 pm7 an7 cd7 ct7), sl7⟩) (e7 : PySem.W.codeIn K cd7 "checked_leap" = true) (k7 : PySem.W.keepIn K (.ref f7) = true)
    (a9 : PySem.W.nsIn K mainGlobals "folded" = some (some (.ref f9))) (l9 : K.lookup f9 = some ⟨oc9, od9, .func (PySem.W.fnOf "folded" "folded" (zan (top 17)) (zag (top 17)) (zaa (top 17)) .none kV9 dc9 pm9 an9 cd9 ct9), sl9⟩) (e9 : PySem.W.codeIn K cd9 "folded" = true) (k9 : PySem.W.keepIn K (.ref f9) = true)
    (a10 : PySem.W.nsIn K mainGlobals "are_near" = some (some (.ref f10))) (l10 : K.lookup f10 = some ⟨oc10, od10, .func (PySem.W.fnOf "are_near" "are_near" (zan (top 18)) (zag (top 18)) (zaa (top 18)) .none kV10 dc10 pm10 an10 cd10 ct10), sl10⟩) (e10 : PySem.W.codeIn K cd10 "are_near" = true) (k10 : PySem.W.keepIn K (.ref f10) = true)
    (a11 : PySem.W.nsIn K mainGlobals "cells_near" = some (some (.ref f11))) (l11 : K.lookup f11 = some ⟨oc11, od11, .func (PySem.W.fnOf "cells_near" "cells_near" (zan (top 19)) (zag (top 19)) (zaa (top 19)) .none kV11 dc11 pm11 an11 cd11 ct11), sl11⟩) (e11 : PySem.W.codeIn K cd11 "cells_near" = true) (k11 : PySem.W.keepIn K (.ref f11) = true)
    (a13 : PySem.W.nsIn K mainGlobals "_law_cell" = some (some (.ref f13))) (l13 : K.lookup f13 = some ⟨oc13, od13, .func (PySem.W.fnOf "_law_cell" "_law_cell" (zan (top 32)) (zag (top 32)) (zaa (top 32)) .none kV13 dc13 pm13 an13 cd13 ct13), sl13⟩) (e13 : PySem.W.codeIn K cd13 "_law_cell" = true) (k13 : PySem.W.keepIn K (.ref f13) = true)
    (a14 : PySem.W.nsIn K mainGlobals "_law_mix" = some (some (.ref f14))) (l14 : K.lookup f14 = some ⟨oc14, od14, .func (PySem.W.fnOf "_law_mix" "_law_mix" (zan (top 33)) (zag (top 33)) (zaa (top 33)) .none kV14 dc14 pm14 an14 cd14 ct14), sl14⟩) (e14 : PySem.W.codeIn K cd14 "_law_mix" = true) (k14 : PySem.W.keepIn K (.ref f14) = true)
    (a15 : PySem.W.nsIn K mainGlobals "_law_floor" = some (some (.ref f15))) (l15 : K.lookup f15 = some ⟨oc15, od15, .func (PySem.W.fnOf "_law_floor" "_law_floor" (zan (top 34)) (zag (top 34)) (zaa (top 34)) .none kV15 dc15 pm15 an15 cd15 ct15), sl15⟩) (e15 : PySem.W.codeIn K cd15 "_law_floor" = true) (k15 : PySem.W.keepIn K (.ref f15) = true)
    (a16 : PySem.W.nsIn K mainGlobals "_law_leap" = some (some (.ref f16))) (l16 : K.lookup f16 = some ⟨oc16, od16, .func (PySem.W.fnOf "_law_leap" "_law_leap" (zan (top 35)) (zag (top 35)) (zaa (top 35)) .none kV16 dc16 pm16 an16 cd16 ct16), sl16⟩) (e16 : PySem.W.codeIn K cd16 "_law_leap" = true) (k16 : PySem.W.keepIn K (.ref f16) = true)
    (a17 : PySem.W.nsIn K mainGlobals "_law_is_near" = some (some (.ref f17))) (l17 : K.lookup f17 = some ⟨oc17, od17, .func (PySem.W.fnOf "_law_is_near" "_law_is_near" (zan (top 36)) (zag (top 36)) (zaa (top 36)) .none kV17 dc17 pm17 an17 cd17 ct17), sl17⟩) (e17 : PySem.W.codeIn K cd17 "_law_is_near" = true) (k17 : PySem.W.keepIn K (.ref f17) = true)
    (a18 : PySem.W.nsIn K mainGlobals "_law_near" = some (some (.ref f18))) (l18 : K.lookup f18 = some ⟨oc18, od18, .func (PySem.W.fnOf "_law_near" "_law_near" (zan (top 37)) (zag (top 37)) (zaa (top 37)) .none kV18 dc18 pm18 an18 cd18 ct18), sl18⟩) (e18 : PySem.W.codeIn K cd18 "_law_near" = true) (k18 : PySem.W.keepIn K (.ref f18) = true)
    (a21 : PySem.W.nsIn K mainGlobals "greatest_divisor" = some (some (.ref f21))) (l21 : K.lookup f21 = some ⟨oc21, od21, .func (PySem.W.fnOf "greatest_divisor" "greatest_divisor" (zan (top 20)) (zag (top 20)) (zaa (top 20)) .none kV21 dc21 pm21 an21 cd21 ct21), sl21⟩) (e21 : PySem.W.codeIn K cd21 "greatest_divisor" = true) (k21 : PySem.W.keepIn K (.ref f21) = true)
    (a22 : PySem.W.nsIn K mainGlobals "has_odd_sum" = some (some (.ref f22))) (l22 : K.lookup f22 = some ⟨oc22, od22, .func (PySem.W.fnOf "has_odd_sum" "has_odd_sum" (zan (top 21)) (zag (top 21)) (zaa (top 21)) .none kV22 dc22 pm22 an22 cd22 ct22), sl22⟩) (e22 : PySem.W.codeIn K cd22 "has_odd_sum" = true) (k22 : PySem.W.keepIn K (.ref f22) = true)
    (a23 : PySem.W.nsIn K mainGlobals "hue_of" = some (some (.ref f23))) (l23 : K.lookup f23 = some ⟨oc23, od23, .func (PySem.W.fnOf "hue_of" "hue_of" (zan (top 22)) (zag (top 22)) (zaa (top 22)) .none kV23 dc23 pm23 an23 cd23 ct23), sl23⟩) (e23 : PySem.W.codeIn K cd23 "hue_of" = true) (k23 : PySem.W.keepIn K (.ref f23) = true)
    (a24 : PySem.W.nsIn K mainGlobals "cells_of_hue" = some (some (.ref f24))) (l24 : K.lookup f24 = some ⟨oc24, od24, .func (PySem.W.fnOf "cells_of_hue" "cells_of_hue" (zan (top 23)) (zag (top 23)) (zaa (top 23)) .none kV24 dc24 pm24 an24 cd24 ct24), sl24⟩) (e24 : PySem.W.codeIn K cd24 "cells_of_hue" = true) (k24 : PySem.W.keepIn K (.ref f24) = true)
    (a28 : PySem.W.nsIn K mainGlobals "_law_hue" = some (some (.ref f28))) (l28 : K.lookup f28 = some ⟨oc28, od28, .func (PySem.W.fnOf "_law_hue" "_law_hue" (zan (top 38)) (zag (top 38)) (zaa (top 38)) .none kV28 dc28 pm28 an28 cd28 ct28), sl28⟩) (e28 : PySem.W.codeIn K cd28 "_law_hue" = true) (k28 : PySem.W.keepIn K (.ref f28) = true)
    (a37 : PySem.W.nsIn K mainGlobals "finds_mate" = some (some (.ref f37))) (l37 : K.lookup f37 = some ⟨oc37, od37, .func (PySem.W.fnOf "finds_mate" "finds_mate" (zan (top 25)) (zag (top 25)) (zaa (top 25)) .none kV37 dc37 pm37 an37 cd37 ct37), sl37⟩) (e37 : PySem.W.codeIn K cd37 "finds_mate" = true) (k37 : PySem.W.keepIn K (.ref f37) = true)
    (a38 : PySem.W.nsIn K mainGlobals "all_mates" = some (some (.ref f38))) (l38 : K.lookup f38 = some ⟨oc38, od38, .func (PySem.W.fnOf "all_mates" "all_mates" (zan (top 26)) (zag (top 26)) (zaa (top 26)) .none kV38 dc38 pm38 an38 cd38 ct38), sl38⟩) (e38 : PySem.W.codeIn K cd38 "all_mates" = true) (k38 : PySem.W.keepIn K (.ref f38) = true)
    (a39 : PySem.W.nsIn K mainGlobals "pairs_of" = some (some (.ref f39))) (l39 : K.lookup f39 = some ⟨oc39, od39, .func (PySem.W.fnOf "pairs_of" "pairs_of" (zan (top 27)) (zag (top 27)) (zaa (top 27)) .none kV39 dc39 pm39 an39 cd39 ct39), sl39⟩) (e39 : PySem.W.codeIn K cd39 "pairs_of" = true) (k39 : PySem.W.keepIn K (.ref f39) = true)
    (a40 : PySem.W.nsIn K mainGlobals "crowd_and_around" = some (some (.ref f40))) (l40 : K.lookup f40 = some ⟨oc40, od40, .func (PySem.W.fnOf "crowd_and_around" "crowd_and_around" (zan (top 28)) (zag (top 28)) (zaa (top 28)) .none kV40 dc40 pm40 an40 cd40 ct40), sl40⟩) (e40 : PySem.W.codeIn K cd40 "crowd_and_around" = true) (k40 : PySem.W.keepIn K (.ref f40) = true)
    (a43 : PySem.W.nsIn K mainGlobals "most_pairs" = some (some (.ref f43))) (l43 : K.lookup f43 = some ⟨oc43, od43, .func (PySem.W.fnOf "most_pairs" "most_pairs" (zan (top 29)) (zag (top 29)) (zaa (top 29)) .none kV43 dc43 pm43 an43 cd43 ct43), sl43⟩) (e43 : PySem.W.codeIn K cd43 "most_pairs" = true) (k43 : PySem.W.keepIn K (.ref f43) = true)
    (a47 : PySem.W.nsIn K mainGlobals "paired" = some (some (.ref f47))) (l47 : K.lookup f47 = some ⟨oc47, od47, .func (PySem.W.fnOf "paired" "paired" (zan (top 30)) (zag (top 30)) (zaa (top 30)) .none kV47 dc47 pm47 an47 cd47 ct47), sl47⟩) (e47 : PySem.W.codeIn K cd47 "paired" = true) (k47 : PySem.W.keepIn K (.ref f47) = true)
    (a48 : PySem.W.nsIn K mainGlobals "law" = some (some (.ref f48))) (l48 : K.lookup f48 = some ⟨oc48, od48, .func (PySem.W.fnOf "law" "law" (zan (top 39)) (zag (top 39)) (zaa (top 39)) .none kV48 dc48 pm48 an48 cd48 ct48), sl48⟩) (e48 : PySem.W.codeIn K cd48 "law" = true) (k48 : PySem.W.keepIn K (.ref f48) = true)
    (z_isinstance : PySem.W.nsIn K mainGlobals "isinstance" = some none)
    (z_int : PySem.W.nsIn K mainGlobals "int" = some none)
    (z_bool : PySem.W.nsIn K mainGlobals "bool" = some none)
    (z_len : PySem.W.nsIn K mainGlobals "len" = some none)
    (z_tuple : PySem.W.nsIn K mainGlobals "tuple" = some none)
    (z_range : PySem.W.nsIn K mainGlobals "range" = some none)
    (z_all : PySem.W.nsIn K mainGlobals "all" = some none)
    (z_abs : PySem.W.nsIn K mainGlobals "abs" = some none)
    (z_max : PySem.W.nsIn K mainGlobals "max" = some none)
    (z_min : PySem.W.nsIn K mainGlobals "min" = some none)
    (z_sorted : PySem.W.nsIn K mainGlobals "sorted" = some none)
    (z_list : PySem.W.nsIn K mainGlobals "list" = some none)
    (z_set : PySem.W.nsIn K mainGlobals "set" = some none)
    (c0 : PySem.W.nsIn K mainGlobals "LAST_LINE" = some (some (.int 7 t0)))
    (c1 : PySem.W.nsIn K mainGlobals "MOST_CELLS" = some (some (.int 24 t1)))
    (c2 : PySem.W.nsIn K mainGlobals "LONGEST_LEAP" = some (some (.int 4 t2)))
    : ∃ F FD TK, Txt K mg F FD TK ∧ F 48 = f48 ∧ (∀ (s : Shared) (u : Value), BindsTo s (FD 48) ⟨[u], []⟩ [("_law_script", u)]) :=
  ⟨fun i => match i with
     | 1 => f1
     | 2 => f2
     | 3 => f3
     | 4 => f4
     | 5 => f5
     | 6 => f6
     | 7 => f7
     | 9 => f9
     | 10 => f10
     | 11 => f11
     | 13 => f13
     | 14 => f14
     | 15 => f15
     | 16 => f16
     | 17 => f17
     | 18 => f18
     | 21 => f21
     | 22 => f22
     | 23 => f23
     | 24 => f24
     | 28 => f28
     | 37 => f37
     | 38 => f38
     | 39 => f39
     | 40 => f40
     | 43 => f43
     | 47 => f47
     | 48 => f48
     | _ => f0,
   fun i => match i with
     | 1 => PySem.W.fnOf "is_couple" "is_couple" (zan (top 9)) (zag (top 9)) (zaa (top 9)) .none kV1 dc1 pm1 an1 cd1 ct1
     | 2 => PySem.W.fnOf "is_cell" "is_cell" (zan (top 10)) (zag (top 10)) (zaa (top 10)) .none kV2 dc2 pm2 an2 cd2 ct2
     | 3 => PySem.W.fnOf "is_leap" "is_leap" (zan (top 11)) (zag (top 11)) (zaa (top 11)) .none kV3 dc3 pm3 an3 cd3 ct3
     | 4 => PySem.W.fnOf "is_rising" "is_rising" (zan (top 12)) (zag (top 12)) (zaa (top 12)) .none kV4 dc4 pm4 an4 cd4 ct4
     | 5 => PySem.W.fnOf "is_floor" "is_floor" (zan (top 13)) (zag (top 13)) (zaa (top 13)) .none kV5 dc5 pm5 an5 cd5 ct5
     | 6 => PySem.W.fnOf "checked" "checked" (zan (top 14)) (zag (top 14)) (zaa (top 14)) .none kV6 dc6 pm6 an6 cd6 ct6
     | 7 => PySem.W.fnOf "checked_leap" "checked_leap" (zan (top 15)) (zag (top 15)) (zaa (top 15)) .none kV7 dc7 pm7 an7 cd7 ct7
     | 9 => PySem.W.fnOf "folded" "folded" (zan (top 17)) (zag (top 17)) (zaa (top 17)) .none kV9 dc9 pm9 an9 cd9 ct9
     | 10 => PySem.W.fnOf "are_near" "are_near" (zan (top 18)) (zag (top 18)) (zaa (top 18)) .none kV10 dc10 pm10 an10 cd10 ct10
     | 11 => PySem.W.fnOf "cells_near" "cells_near" (zan (top 19)) (zag (top 19)) (zaa (top 19)) .none kV11 dc11 pm11 an11 cd11 ct11
     | 13 => PySem.W.fnOf "_law_cell" "_law_cell" (zan (top 32)) (zag (top 32)) (zaa (top 32)) .none kV13 dc13 pm13 an13 cd13 ct13
     | 14 => PySem.W.fnOf "_law_mix" "_law_mix" (zan (top 33)) (zag (top 33)) (zaa (top 33)) .none kV14 dc14 pm14 an14 cd14 ct14
     | 15 => PySem.W.fnOf "_law_floor" "_law_floor" (zan (top 34)) (zag (top 34)) (zaa (top 34)) .none kV15 dc15 pm15 an15 cd15 ct15
     | 16 => PySem.W.fnOf "_law_leap" "_law_leap" (zan (top 35)) (zag (top 35)) (zaa (top 35)) .none kV16 dc16 pm16 an16 cd16 ct16
     | 17 => PySem.W.fnOf "_law_is_near" "_law_is_near" (zan (top 36)) (zag (top 36)) (zaa (top 36)) .none kV17 dc17 pm17 an17 cd17 ct17
     | 18 => PySem.W.fnOf "_law_near" "_law_near" (zan (top 37)) (zag (top 37)) (zaa (top 37)) .none kV18 dc18 pm18 an18 cd18 ct18
     | 21 => PySem.W.fnOf "greatest_divisor" "greatest_divisor" (zan (top 20)) (zag (top 20)) (zaa (top 20)) .none kV21 dc21 pm21 an21 cd21 ct21
     | 22 => PySem.W.fnOf "has_odd_sum" "has_odd_sum" (zan (top 21)) (zag (top 21)) (zaa (top 21)) .none kV22 dc22 pm22 an22 cd22 ct22
     | 23 => PySem.W.fnOf "hue_of" "hue_of" (zan (top 22)) (zag (top 22)) (zaa (top 22)) .none kV23 dc23 pm23 an23 cd23 ct23
     | 24 => PySem.W.fnOf "cells_of_hue" "cells_of_hue" (zan (top 23)) (zag (top 23)) (zaa (top 23)) .none kV24 dc24 pm24 an24 cd24 ct24
     | 28 => PySem.W.fnOf "_law_hue" "_law_hue" (zan (top 38)) (zag (top 38)) (zaa (top 38)) .none kV28 dc28 pm28 an28 cd28 ct28
     | 37 => PySem.W.fnOf "finds_mate" "finds_mate" (zan (top 25)) (zag (top 25)) (zaa (top 25)) .none kV37 dc37 pm37 an37 cd37 ct37
     | 38 => PySem.W.fnOf "all_mates" "all_mates" (zan (top 26)) (zag (top 26)) (zaa (top 26)) .none kV38 dc38 pm38 an38 cd38 ct38
     | 39 => PySem.W.fnOf "pairs_of" "pairs_of" (zan (top 27)) (zag (top 27)) (zaa (top 27)) .none kV39 dc39 pm39 an39 cd39 ct39
     | 40 => PySem.W.fnOf "crowd_and_around" "crowd_and_around" (zan (top 28)) (zag (top 28)) (zaa (top 28)) .none kV40 dc40 pm40 an40 cd40 ct40
     | 43 => PySem.W.fnOf "most_pairs" "most_pairs" (zan (top 29)) (zag (top 29)) (zaa (top 29)) .none kV43 dc43 pm43 an43 cd43 ct43
     | 47 => PySem.W.fnOf "paired" "paired" (zan (top 30)) (zag (top 30)) (zaa (top 30)) .none kV47 dc47 pm47 an47 cd47 ct47
     | 48 => PySem.W.fnOf "law" "law" (zan (top 39)) (zag (top 39)) (zaa (top 39)) .none kV48 dc48 pm48 an48 cd48 ct48
     | _ => PySem.W.fnOf "is_whole" "is_whole" (zan (top 8)) (zag (top 8)) (zaa (top 8)) .none kV0 dc0 pm0 an0 cd0 ct0,
   fun i => [t0, t1, t2].getD i 0,
   {
     m0 := PySem.W.mg_of X G a0
     f0 := zaw (st := top 8) l0 e0 k0
     b0 := (zaw (st := top 8) l0 e0 k0).binds (ps := zaL 0) fun _ _ _ _ _ _ us hl => on3 (P := fun us => bindArgs _ ⟨us, []⟩ = pure ((zaL 0).zip us)) (fun _ _ _ => rfl) us hl
     m1 := PySem.W.mg_of X G a1
     f1 := zaw (st := top 9) l1 e1 k1
     b1 := (zaw (st := top 9) l1 e1 k1).binds (ps := zaL 1) fun _ _ _ _ _ _ us hl => on1 (P := fun us => bindArgs _ ⟨us, []⟩ = pure ((zaL 1).zip us)) (fun _ => rfl) us hl
     m2 := PySem.W.mg_of X G a2
     f2 := zaw (st := top 10) l2 e2 k2
     b2 := (zaw (st := top 10) l2 e2 k2).binds (ps := zaL 2) fun _ _ _ _ _ _ us hl => on1 (P := fun us => bindArgs _ ⟨us, []⟩ = pure ((zaL 2).zip us)) (fun _ => rfl) us hl
     m3 := PySem.W.mg_of X G a3
     f3 := zaw (st := top 11) l3 e3 k3
     b3 := (zaw (st := top 11) l3 e3 k3).binds (ps := zaL 3) fun _ _ _ _ _ _ us hl => on1 (P := fun us => bindArgs _ ⟨us, []⟩ = pure ((zaL 3).zip us)) (fun _ => rfl) us hl
     m4 := PySem.W.mg_of X G a4
     f4 := zaw (st := top 12) l4 e4 k4
     b4 := (zaw (st := top 12) l4 e4 k4).binds (ps := zaL 4) fun _ _ _ _ _ _ us hl => on1 (P := fun us => bindArgs _ ⟨us, []⟩ = pure ((zaL 4).zip us)) (fun _ => rfl) us hl
     m5 := PySem.W.mg_of X G a5
     f5 := zaw (st := top 13) l5 e5 k5
     b5 := (zaw (st := top 13) l5 e5 k5).binds (ps := zaL 5) fun _ _ _ _ _ _ us hl => on1 (P := fun us => bindArgs _ ⟨us, []⟩ = pure ((zaL 5).zip us)) (fun _ => rfl) us hl
     m6 := PySem.W.mg_of X G a6
     f6 := zaw (st := top 14) l6 e6 k6
     b6 := (zaw (st := top 14) l6 e6 k6).binds (ps := zaL 6) fun _ _ _ _ _ _ us hl => on1 (P := fun us => bindArgs _ ⟨us, []⟩ = pure ((zaL 6).zip us)) (fun _ => rfl) us hl
     m7 := PySem.W.mg_of X G a7
     f7 := zaw (st := top 15) l7 e7 k7
     b7 := (zaw (st := top 15) l7 e7 k7).binds (ps := zaL 7) fun _ _ _ _ _ _ us hl => on1 (P := fun us => bindArgs _ ⟨us, []⟩ = pure ((zaL 7).zip us)) (fun _ => rfl) us hl
     m9 := PySem.W.mg_of X G a9
     f9 := zaw (st := top 17) l9 e9 k9
     b9 := (zaw (st := top 17) l9 e9 k9).binds (ps := zaL 9) fun _ _ _ _ _ _ us hl => on2 (P := fun us => bindArgs _ ⟨us, []⟩ = pure ((zaL 9).zip us)) (fun _ _ => rfl) us hl
     m10 := PySem.W.mg_of X G a10
     f10 := zaw (st := top 18) l10 e10 k10
     b10 := (zaw (st := top 18) l10 e10 k10).binds (ps := zaL 10) fun _ _ _ _ _ _ us hl => on3 (P := fun us => bindArgs _ ⟨us, []⟩ = pure ((zaL 10).zip us)) (fun _ _ _ => rfl) us hl
     m11 := PySem.W.mg_of X G a11
     f11 := zaw (st := top 19) l11 e11 k11
     b11 := (zaw (st := top 19) l11 e11 k11).binds (ps := zaL 11) fun _ _ _ _ _ _ us hl => on3 (P := fun us => bindArgs _ ⟨us, []⟩ = pure ((zaL 11).zip us)) (fun _ _ _ => rfl) us hl
     m13 := PySem.W.mg_of X G a13
     f13 := zaw (st := top 32) l13 e13 k13
     b13 := (zaw (st := top 32) l13 e13 k13).binds (ps := zaL 13) fun _ _ _ _ _ _ us hl => on2 (P := fun us => bindArgs _ ⟨us, []⟩ = pure ((zaL 13).zip us)) (fun _ _ => rfl) us hl
     m14 := PySem.W.mg_of X G a14
     f14 := zaw (st := top 33) l14 e14 k14
     b14 := (zaw (st := top 33) l14 e14 k14).binds (ps := zaL 14) fun _ _ _ _ _ _ us hl => on3 (P := fun us => bindArgs _ ⟨us, []⟩ = pure ((zaL 14).zip us)) (fun _ _ _ => rfl) us hl
     m15 := PySem.W.mg_of X G a15
     f15 := zaw (st := top 34) l15 e15 k15
     b15 := (zaw (st := top 34) l15 e15 k15).binds (ps := zaL 15) fun _ _ _ _ _ _ us hl => on3 (P := fun us => bindArgs _ ⟨us, []⟩ = pure ((zaL 15).zip us)) (fun _ _ _ => rfl) us hl
     m16 := PySem.W.mg_of X G a16
     f16 := zaw (st := top 35) l16 e16 k16
     b16 := (zaw (st := top 35) l16 e16 k16).binds (ps := zaL 16) fun _ _ _ _ _ _ us hl => on1 (P := fun us => bindArgs _ ⟨us, []⟩ = pure ((zaL 16).zip us)) (fun _ => rfl) us hl
     m17 := PySem.W.mg_of X G a17
     f17 := zaw (st := top 36) l17 e17 k17
     b17 := (zaw (st := top 36) l17 e17 k17).binds (ps := zaL 17) fun _ _ _ _ _ _ us hl => on3 (P := fun us => bindArgs _ ⟨us, []⟩ = pure ((zaL 17).zip us)) (fun _ _ _ => rfl) us hl
     m18 := PySem.W.mg_of X G a18
     f18 := zaw (st := top 37) l18 e18 k18
     b18 := (zaw (st := top 37) l18 e18 k18).binds (ps := zaL 18) fun _ _ _ _ _ _ us hl => on3 (P := fun us => bindArgs _ ⟨us, []⟩ = pure ((zaL 18).zip us)) (fun _ _ _ => rfl) us hl
     m21 := PySem.W.mg_of X G a21
     f21 := zaw (st := top 20) l21 e21 k21
     b21 := (zaw (st := top 20) l21 e21 k21).binds (ps := zaL 21) fun _ _ _ _ _ _ us hl => on1 (P := fun us => bindArgs _ ⟨us, []⟩ = pure ((zaL 21).zip us)) (fun _ => rfl) us hl
     m22 := PySem.W.mg_of X G a22
     f22 := zaw (st := top 21) l22 e22 k22
     b22 := (zaw (st := top 21) l22 e22 k22).binds (ps := zaL 22) fun _ _ _ _ _ _ us hl => on1 (P := fun us => bindArgs _ ⟨us, []⟩ = pure ((zaL 22).zip us)) (fun _ => rfl) us hl
     m23 := PySem.W.mg_of X G a23
     f23 := zaw (st := top 22) l23 e23 k23
     b23 := (zaw (st := top 22) l23 e23 k23).binds (ps := zaL 23) fun _ _ _ _ _ _ us hl => on2 (P := fun us => bindArgs _ ⟨us, []⟩ = pure ((zaL 23).zip us)) (fun _ _ => rfl) us hl
     m24 := PySem.W.mg_of X G a24
     f24 := zaw (st := top 23) l24 e24 k24
     b24 := (zaw (st := top 23) l24 e24 k24).binds (ps := zaL 24) fun _ _ _ _ _ _ us hl => on3 (P := fun us => bindArgs _ ⟨us, []⟩ = pure ((zaL 24).zip us)) (fun _ _ _ => rfl) us hl
     m28 := PySem.W.mg_of X G a28
     f28 := zaw (st := top 38) l28 e28 k28
     b28 := (zaw (st := top 38) l28 e28 k28).binds (ps := zaL 28) fun _ _ _ _ _ _ us hl => on2 (P := fun us => bindArgs _ ⟨us, []⟩ = pure ((zaL 28).zip us)) (fun _ _ => rfl) us hl
     m37 := PySem.W.mg_of X G a37
     f37 := zaw (st := top 25) l37 e37 k37
     b37 := (zaw (st := top 25) l37 e37 k37).binds (ps := zaL 37) fun _ _ _ _ _ _ us hl => on5 (P := fun us => bindArgs _ ⟨us, []⟩ = pure ((zaL 37).zip us)) (fun _ _ _ _ _ => rfl) us hl
     m38 := PySem.W.mg_of X G a38
     f38 := zaw (st := top 26) l38 e38 k38
     b38 := (zaw (st := top 26) l38 e38 k38).binds (ps := zaL 38) fun _ _ _ _ _ _ us hl => on2 (P := fun us => bindArgs _ ⟨us, []⟩ = pure ((zaL 38).zip us)) (fun _ _ => rfl) us hl
     m39 := PySem.W.mg_of X G a39
     f39 := zaw (st := top 27) l39 e39 k39
     b39 := (zaw (st := top 27) l39 e39 k39).binds (ps := zaL 39) fun _ _ _ _ _ _ us hl => on2 (P := fun us => bindArgs _ ⟨us, []⟩ = pure ((zaL 39).zip us)) (fun _ _ => rfl) us hl
     m40 := PySem.W.mg_of X G a40
     f40 := zaw (st := top 28) l40 e40 k40
     b40 := (zaw (st := top 28) l40 e40 k40).binds (ps := zaL 40) fun _ _ _ _ _ _ us hl => on4 (P := fun us => bindArgs _ ⟨us, []⟩ = pure ((zaL 40).zip us)) (fun _ _ _ _ => rfl) us hl
     m43 := PySem.W.mg_of X G a43
     f43 := zaw (st := top 29) l43 e43 k43
     b43 := (zaw (st := top 29) l43 e43 k43).binds (ps := zaL 43) fun _ _ _ _ _ _ us hl => on2 (P := fun us => bindArgs _ ⟨us, []⟩ = pure ((zaL 43).zip us)) (fun _ _ => rfl) us hl
     m47 := PySem.W.mg_of X G a47
     f47 := zaw (st := top 30) l47 e47 k47
     b47 := (zaw (st := top 30) l47 e47 k47).binds (ps := zaL 47) fun _ _ _ _ _ _ us hl => on2 (P := fun us => bindArgs _ ⟨us, []⟩ = pure ((zaL 47).zip us)) (fun _ _ => rfl) us hl
     m48 := PySem.W.mg_of X G a48
     f48 := zaw (st := top 39) l48 e48 k48
     b48 := (zaw (st := top 39) l48 e48 k48).binds (ps := zaL 48) fun _ _ _ _ _ _ us hl => on1 (P := fun us => bindArgs _ ⟨us, []⟩ = pure ((zaL 48).zip us)) (fun _ => rfl) us hl
     z_isinstance := PySem.W.mg_none_of X G z_isinstance
     z_int := PySem.W.mg_none_of X G z_int
     z_bool := PySem.W.mg_none_of X G z_bool
     z_len := PySem.W.mg_none_of X G z_len
     z_tuple := PySem.W.mg_none_of X G z_tuple
     z_range := PySem.W.mg_none_of X G z_range
     z_all := PySem.W.mg_none_of X G z_all
     z_abs := PySem.W.mg_none_of X G z_abs
     z_max := PySem.W.mg_none_of X G z_max
     z_min := PySem.W.mg_none_of X G z_min
     z_sorted := PySem.W.mg_none_of X G z_sorted
     z_list := PySem.W.mg_none_of X G z_list
     z_set := PySem.W.mg_none_of X G z_set
     c0 := PySem.W.mg_of X G c0
     c1 := PySem.W.mg_of X G c1
     c2 := PySem.W.mg_of X G c2
   }, rfl, fun s u => .of_eq rfl⟩
end
end LK
namespace LK
open PySem PySem.W L2
noncomputable def en(P:Params)(x:Str)(t:Nat)(v:Value):DictEntry:=⟨PyData.keyHash P x,.str x t,v⟩
noncomputable def fo(i:Nat)(x m:Str)(t c:Nat):Obj:=⟨.type "function",none,.func (fnOf x x (zan (top i)) (zag (top i)) (zaa (top i)) .none .none .none (.str m t) none (.ref c) .none), #[]⟩
noncomputable def co(x:Str)(t l a r h:Nat):Obj:=⟨.type "code",none,.fields #[.str x t,.str x (t+1),.str "/claim/cut.py" (t+2),.int l 0,.int a 0,.int 0 0,.int 0 0,.int 3 0,.ref r,.bool true,.int 181 0,.ref (r+1),.none,.ref (r+2),.ref (r+3),.ref (r+4),.int h 0,.int l 0,.str "/claim/cut.py" (h+1)], #[]⟩
noncomputable def cn(x:Str)(t l a r h:Nat):Obj:=⟨.type "code",none,.fields #[.str x t,.str x (t+1),.str "/claim/cut.py" (t+2),.int l 0,.int a 0,.int 0 0,.int 0 0,.int 3 0,.ref r,.bool true,.int 181 0,.ref (r+1),.none,.none,.none,.ref (r+2),.int h 0,.int l 0,.str "/claim/cut.py" (h+1)], #[]⟩
noncomputable def HK(P:Params):Frag:=[(3,.mk (.type "dict") none (.dict #[en P "__name__" 165 (.str "law_leaperwalk_k14_paired_or_a_crowd" 409),en P "__doc__" 166 .none,en P "__package__" 167 .none,en P "__loader__" 168 (.builtin "__main__.__loader__#opaque"),en P "__spec__" 169 .none,en P "__annotations__" 170 (.ref 6),en P "__builtins__" 171 (.ref 4),en P "__file__" 173 (.str "/claim/cut.py" 172),en P "__cached__" 174 .none,en P "LeapError" 206 (.ref 24),en P "BadFloor" 222 (.ref 37),en P "BadLeap" 238 (.ref 49),en P "LAST_LINE" 242 (.int 7 241),en P "MOST_CELLS" 244 (.int 24 243),en P "LONGEST_LEAP" 246 (.int 4 245),en P "is_whole" 255 (.ref 58),en P "is_couple" 262 (.ref 65),en P "is_cell" 269 (.ref 72),en P "is_leap" 276 (.ref 79),en P "is_rising" 282 (.ref 84),en P "is_floor" 288 (.ref 89),en P "checked" 295 (.ref 96),en P "checked_leap" 302 (.ref 103),en P "folded" 312 (.ref 110),en P "are_near" 321 (.ref 117),en P "cells_near" 327 (.ref 122),en P "greatest_divisor" 333 (.ref 127),en P "has_odd_sum" 341 (.ref 134),en P "hue_of" 352 (.ref 141),en P "cells_of_hue" 358 (.ref 146),en P "finds_mate" 372 (.ref 153),en P "all_mates" 382 (.ref 160),en P "pairs_of" 388 (.ref 165),en P "crowd_and_around" 394 (.ref 170),en P "most_pairs" 402 (.ref 177),en P "paired" 408 (.ref 182),en P "_law_cell" 418 (.ref 189),en P "_law_mix" 427 (.ref 196),en P "_law_floor" 446 (.ref 203),en P "_law_leap" 454 (.ref 210),en P "_law_is_near" 463 (.ref 217),en P "_law_near" 469 (.ref 222),en P "_law_hue" 475 (.ref 227),en P "law" 481 (.ref 232)] 44) #[]),
 (57,co "is_whole" 247 12 3 52 253),
 (58,fo 8 "is_whole" "leaperwalk.floors" 239 57),
 (64,co "is_couple" 256 16 1 59 260),
 (65,fo 9 "is_couple" "leaperwalk.floors" 239 64),
 (71,co "is_cell" 263 18 1 66 267),
 (72,fo 10 "is_cell" "leaperwalk.floors" 239 71),
 (78,co "is_leap" 270 20 1 73 274),
 (79,fo 11 "is_leap" "leaperwalk.floors" 239 78),
 (83,cn "is_rising" 277 22 1 80 280),
 (84,fo 12 "is_rising" "leaperwalk.floors" 239 83),
 (88,cn "is_floor" 283 24 1 85 286),
 (89,fo 13 "is_floor" "leaperwalk.floors" 239 88),
 (95,co "checked" 289 28 1 90 293),
 (96,fo 14 "checked" "leaperwalk.floors" 239 95),
 (102,co "checked_leap" 296 32 1 97 300),
 (103,fo 15 "checked_leap" "leaperwalk.floors" 239 102),
 (109,co "folded" 305 37 2 104 310),
 (110,fo 17 "folded" "leaperwalk.leaps" 303 109),
 (116,co "are_near" 313 39 3 111 319),
 (117,fo 18 "are_near" "leaperwalk.leaps" 303 116),
 (121,cn "cells_near" 322 41 3 118 325),
 (122,fo 19 "cells_near" "leaperwalk.leaps" 303 121),
 (126,cn "greatest_divisor" 328 43 1 123 331),
 (127,fo 20 "greatest_divisor" "leaperwalk.leaps" 303 126),
 (133,co "has_odd_sum" 334 45 1 128 339),
 (134,fo 21 "has_odd_sum" "leaperwalk.leaps" 303 133),
 (140,co "hue_of" 342 48 2 135 350),
 (141,fo 22 "hue_of" "leaperwalk.leaps" 303 140),
 (145,cn "cells_of_hue" 353 55 3 142 356),
 (146,fo 23 "cells_of_hue" "leaperwalk.leaps" 303 145),
 (152,co "finds_mate" 361 58 5 147 370),
 (153,fo 25 "finds_mate" "leaperwalk.pairs" 359 152),
 (159,co "all_mates" 373 67 2 154 380),
 (160,fo 26 "all_mates" "leaperwalk.pairs" 359 159),
 (164,cn "pairs_of" 383 72 2 161 386),
 (165,fo 27 "pairs_of" "leaperwalk.pairs" 359 164),
 (169,cn "crowd_and_around" 389 74 4 166 392),
 (170,fo 28 "crowd_and_around" "leaperwalk.pairs" 359 169),
 (176,co "most_pairs" 395 88 2 171 400),
 (177,fo 29 "most_pairs" "leaperwalk.pairs" 359 176),
 (181,cn "paired" 403 92 2 178 406),
 (182,fo 30 "paired" "leaperwalk.pairs" 359 181),
 (188,co "_law_cell" 411 102 2 183 416),
 (189,fo 32 "_law_cell" "law_leaperwalk_k14_paired_or_a_crowd" 409 188),
 (195,co "_law_mix" 419 106 3 190 425),
 (196,fo 33 "_law_mix" "law_leaperwalk_k14_paired_or_a_crowd" 409 195),
 (202,co "_law_floor" 428 108 3 197 444),
 (203,fo 34 "_law_floor" "law_leaperwalk_k14_paired_or_a_crowd" 409 202),
 (209,co "_law_leap" 447 124 1 204 452),
 (210,fo 35 "_law_leap" "law_leaperwalk_k14_paired_or_a_crowd" 409 209),
 (216,co "_law_is_near" 455 127 3 211 461),
 (217,fo 36 "_law_is_near" "law_leaperwalk_k14_paired_or_a_crowd" 409 216),
 (221,cn "_law_near" 464 129 3 218 467),
 (222,fo 37 "_law_near" "law_leaperwalk_k14_paired_or_a_crowd" 409 221),
 (226,cn "_law_hue" 470 131 2 223 473),
 (227,fo 38 "_law_hue" "law_leaperwalk_k14_paired_or_a_crowd" 409 226),
 (231,cn "law" 476 138 1 228 479),
 (232,fo 39 "law" "law_leaperwalk_k14_paired_or_a_crowd" 409 231)]
noncomputable def HA:List Addr:=[3,57,58,64,65,71,72,78,79,83,84,88,89,95,96,102,103,109,110,116,117,121,122,126,127,133,134,140,141,145,146,152,153,159,160,164,165,169,170,176,177,181,182,188,189,195,196,202,203,209,210,216,217,221,222,226,227,231,232]
noncomputable def HQ:Program:=view PySem.Challenge.pw_leaperwalk_k14_paired_or_a_crowd [1,2,3,5,6,7,8,9,10,11,12,13,14,15,17,18,19,20,21,22,23,25,26,27,28,29,30,32,33,34,35,36,37,38,39]
theorem hka: ∀P,HA=(HK P).map (·.1):=fun P=>by kernel_rfl
noncomputable def HH:Hook:=kHook HK HA hka
set_option maxHeartbeats 0 in
theorem zzF:LeftO PySem.Challenge.pw_leaperwalk_k14_paired_or_a_crowd HQ [] (fun s=>xlAt HQ [] s&&recOk (RowW.records (OpenRow.toRowW (OpenLaw.row PySem.Challenge.rw_leaperwalk_k14_paired_or_a_crowd))) s) HH.obs HH.val 3184:=by
 intro w
 kernel_rfl
end LK
open PySem PySem.W PyProof.Rows
set_option maxRecDepth 100000 in
set_option maxHeartbeats 0 in
theorem PySem.Challenge.cw_leaperwalk_k14_paired_or_a_crowd_holds : PySem.Challenge.rw_leaperwalk_k14_paired_or_a_crowd.Holds := by
 w_on;o_law
 refine PySem.W.holds_open (XP:=XL LK.HQ []) LK.zzF (Hook.of LK.HH) (Hook.keeps LK.HH) (fun s e=>xl_of s (Bool.and_eq_true_iff.mp e).1) XL.keeps (by rfl) (by rfl) (by rfl) (fun s e=>recFacts_of (Bool.and_eq_true_iff.mp e).2) (by rfl) (by assumption) (by decide+kernel) ⟨rfl,rfl,rfl,rfl,rfl,by decide+kernel⟩ ?hw ?hc
 case hw=>w_witness2
 refine L2.zpd (K:=LK.HK) (l:=PySem.Challenge.rw_leaperwalk_k14_paired_or_a_crowd) (n:=63) (k:=LK.depth) (x:="_law_script") (CX:=L2.CX0) (sp:=fun K=>L2.LW.spA K (L2.LW.zaq LK.U LK.zat LK.depth) 48 []) rfl (by decide) rfl ⟨rfl,by decide,by decide⟩ (fun w h Y=>Y) ?F ?S ?C
 case F=>
  intro w mg fa h KX G hmg
  have l0:List.lookup 58 (LK.HK w.params)=some (LK.fo 8 "is_whole" "leaperwalk.floors" 239 57):=by kernel_rfl
  have l1:List.lookup 65 (LK.HK w.params)=some (LK.fo 9 "is_couple" "leaperwalk.floors" 239 64):=by kernel_rfl
  have l2:List.lookup 72 (LK.HK w.params)=some (LK.fo 10 "is_cell" "leaperwalk.floors" 239 71):=by kernel_rfl
  have l3:List.lookup 79 (LK.HK w.params)=some (LK.fo 11 "is_leap" "leaperwalk.floors" 239 78):=by kernel_rfl
  have l4:List.lookup 84 (LK.HK w.params)=some (LK.fo 12 "is_rising" "leaperwalk.floors" 239 83):=by kernel_rfl
  have l5:List.lookup 89 (LK.HK w.params)=some (LK.fo 13 "is_floor" "leaperwalk.floors" 239 88):=by kernel_rfl
  have l6:List.lookup 96 (LK.HK w.params)=some (LK.fo 14 "checked" "leaperwalk.floors" 239 95):=by kernel_rfl
  have l7:List.lookup 103 (LK.HK w.params)=some (LK.fo 15 "checked_leap" "leaperwalk.floors" 239 102):=by kernel_rfl
  have l9:List.lookup 110 (LK.HK w.params)=some (LK.fo 17 "folded" "leaperwalk.leaps" 303 109):=by kernel_rfl
  have l10:List.lookup 117 (LK.HK w.params)=some (LK.fo 18 "are_near" "leaperwalk.leaps" 303 116):=by kernel_rfl
  have l11:List.lookup 122 (LK.HK w.params)=some (LK.fo 19 "cells_near" "leaperwalk.leaps" 303 121):=by kernel_rfl
  have l13:List.lookup 189 (LK.HK w.params)=some (LK.fo 32 "_law_cell" "law_leaperwalk_k14_paired_or_a_crowd" 409 188):=by kernel_rfl
  have l14:List.lookup 196 (LK.HK w.params)=some (LK.fo 33 "_law_mix" "law_leaperwalk_k14_paired_or_a_crowd" 409 195):=by kernel_rfl
  have l15:List.lookup 203 (LK.HK w.params)=some (LK.fo 34 "_law_floor" "law_leaperwalk_k14_paired_or_a_crowd" 409 202):=by kernel_rfl
  have l16:List.lookup 210 (LK.HK w.params)=some (LK.fo 35 "_law_leap" "law_leaperwalk_k14_paired_or_a_crowd" 409 209):=by kernel_rfl
  have l17:List.lookup 217 (LK.HK w.params)=some (LK.fo 36 "_law_is_near" "law_leaperwalk_k14_paired_or_a_crowd" 409 216):=by kernel_rfl
  have l18:List.lookup 222 (LK.HK w.params)=some (LK.fo 37 "_law_near" "law_leaperwalk_k14_paired_or_a_crowd" 409 221):=by kernel_rfl
  have l21:List.lookup 127 (LK.HK w.params)=some (LK.fo 20 "greatest_divisor" "leaperwalk.leaps" 303 126):=by kernel_rfl
  have l22:List.lookup 134 (LK.HK w.params)=some (LK.fo 21 "has_odd_sum" "leaperwalk.leaps" 303 133):=by kernel_rfl
  have l23:List.lookup 141 (LK.HK w.params)=some (LK.fo 22 "hue_of" "leaperwalk.leaps" 303 140):=by kernel_rfl
  have l24:List.lookup 146 (LK.HK w.params)=some (LK.fo 23 "cells_of_hue" "leaperwalk.leaps" 303 145):=by kernel_rfl
  have l28:List.lookup 227 (LK.HK w.params)=some (LK.fo 38 "_law_hue" "law_leaperwalk_k14_paired_or_a_crowd" 409 226):=by kernel_rfl
  have l37:List.lookup 153 (LK.HK w.params)=some (LK.fo 25 "finds_mate" "leaperwalk.pairs" 359 152):=by kernel_rfl
  have l38:List.lookup 160 (LK.HK w.params)=some (LK.fo 26 "all_mates" "leaperwalk.pairs" 359 159):=by kernel_rfl
  have l39:List.lookup 165 (LK.HK w.params)=some (LK.fo 27 "pairs_of" "leaperwalk.pairs" 359 164):=by kernel_rfl
  have l40:List.lookup 170 (LK.HK w.params)=some (LK.fo 28 "crowd_and_around" "leaperwalk.pairs" 359 169):=by kernel_rfl
  have l43:List.lookup 177 (LK.HK w.params)=some (LK.fo 29 "most_pairs" "leaperwalk.pairs" 359 176):=by kernel_rfl
  have l47:List.lookup 182 (LK.HK w.params)=some (LK.fo 30 "paired" "leaperwalk.pairs" 359 181):=by kernel_rfl
  have l48:List.lookup 232 (LK.HK w.params)=some (LK.fo 39 "law" "law_leaperwalk_k14_paired_or_a_crowd" 409 231):=by kernel_rfl
  obtain⟨F,FD,TK,T,e0,hb⟩:=LK.zwf (t0:=241) (t1:=243) (t2:=245) KX G (by kernel_rfl) l0 (by kernel_rfl) (by kernel_rfl) (by kernel_rfl) l1 (by kernel_rfl) (by kernel_rfl) (by kernel_rfl) l2 (by kernel_rfl) (by kernel_rfl) (by kernel_rfl) l3 (by kernel_rfl) (by kernel_rfl) (by kernel_rfl) l4 (by kernel_rfl) (by kernel_rfl) (by kernel_rfl) l5 (by kernel_rfl) (by kernel_rfl) (by kernel_rfl) l6 (by kernel_rfl) (by kernel_rfl) (by kernel_rfl) l7 (by kernel_rfl) (by kernel_rfl) (by kernel_rfl) l9 (by kernel_rfl) (by kernel_rfl) (by kernel_rfl) l10 (by kernel_rfl) (by kernel_rfl) (by kernel_rfl) l11 (by kernel_rfl) (by kernel_rfl) (by kernel_rfl) l13 (by kernel_rfl) (by kernel_rfl) (by kernel_rfl) l14 (by kernel_rfl) (by kernel_rfl) (by kernel_rfl) l15 (by kernel_rfl) (by kernel_rfl) (by kernel_rfl) l16 (by kernel_rfl) (by kernel_rfl) (by kernel_rfl) l17 (by kernel_rfl) (by kernel_rfl) (by kernel_rfl) l18 (by kernel_rfl) (by kernel_rfl) (by kernel_rfl) l21 (by kernel_rfl) (by kernel_rfl) (by kernel_rfl) l22 (by kernel_rfl) (by kernel_rfl) (by kernel_rfl) l23 (by kernel_rfl) (by kernel_rfl) (by kernel_rfl) l24 (by kernel_rfl) (by kernel_rfl) (by kernel_rfl) l28 (by kernel_rfl) (by kernel_rfl) (by kernel_rfl) l37 (by kernel_rfl) (by kernel_rfl) (by kernel_rfl) l38 (by kernel_rfl) (by kernel_rfl) (by kernel_rfl) l39 (by kernel_rfl) (by kernel_rfl) (by kernel_rfl) l40 (by kernel_rfl) (by kernel_rfl) (by kernel_rfl) l43 (by kernel_rfl) (by kernel_rfl) (by kernel_rfl) l47 (by kernel_rfl) (by kernel_rfl) (by kernel_rfl) l48 (by kernel_rfl) (by kernel_rfl) (by kernel_rfl) (by kernel_rfl) (by kernel_rfl) (by kernel_rfl) (by kernel_rfl) (by kernel_rfl) (by kernel_rfl) (by kernel_rfl) (by kernel_rfl) (by kernel_rfl) (by kernel_rfl) (by kernel_rfl) (by kernel_rfl) (by kernel_rfl) (by kernel_rfl) (by kernel_rfl)
  have e1:=hmg.symm.trans T.m48
  cases e1
  exact⟨_,hb,fun base _ _=>LK.za3 T LK.depth 48⟩
 case S=>exact fun K H a ns hl _ hS=>L2.LW.zt9 (LK.zjs ns hl) hS
 case C=>exact fun _ _ _ _ z=>z
